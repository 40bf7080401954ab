/- The walks of the document's own cells, Count, Find, Down; of package node: Down. -/
import Derived.Test.YtedoechjjcbeeaaNodFind
import Derived.Test.YtedoechjjcbeeaaApp1
set_option linter.unusedVariables false
set_option linter.unusedSimpArgs false
namespace Go.Proofs.Ytedoechjjcbeeaa
open Go.RowKit

def cellsL (c : Nat → Ce) : Nat → List Value
  | 0 => []
  | n + 1 => cellsL c n ++ (c n).cs
theorem cellsL_length (c : Nat → Ce) : ∀ n, (cellsL c n).length = n * 2
  | 0 => rfl
  | n + 1 => by simp only [cellsL, List.length_append, cellsL_length c n, Ce.cs, List.length_cons, List.length_nil]; omega
theorem cellsL_get (c : Nat → Ce) : ∀ n j, j < n → (cellsL c n)[j * 2]? = some (.int .i64 (c j).st) ∧ (cellsL c n)[j * 2 + 1]? = some (.string (c j).d)
  | n + 1, j, h => by
    have hl := cellsL_length c n
    simp only [cellsL]
    by_cases e : j = n
    · subst e
      rw [List.getElem?_append_right (by omega), List.getElem?_append_right (by omega), hl]
      simp [Ce.cs]
    · rw [List.getElem?_append_left (by omega), List.getElem?_append_left (by omega)]
      exact cellsL_get c n j (by omega)
theorem cellsL_congr {c d : Nat → Ce} : ∀ {n}, (∀ j, j < n → c j = d j) → cellsL c n = cellsL d n
  | 0, _ => rfl
  | n + 1, h => by simp only [cellsL]; rw [cellsL_congr fun j hj => h j (by omega), h n (by omega)]
/-- A slice of the call's own that holds the first n cells. -/
def CRow (w : World) (B : Nat) (a : Option Addr) (n cap : Nat) (c : Nat → Ce) : Prop := w.ownsRow B 23 2 (.slice a n cap) n (cellsL c n)
namespace CRow
variable {w w' : World} {B n cap : Nat} {a : Option Addr} {c : Nat → Ce}
theorem nil (w : World) (B : Nat) (c : Nat → Ce) : CRow w B none 0 0 c := World.ownsRow_nil _ _ _ _
theorem form (h : CRow w B a n cap c) (hn : 0 < n) : ∃ g, a = some ⟨g, 0, none⟩ ∧ B ≤ g ∧ g < w.heap.size := by
  obtain ⟨g, cap', hv, h1, h2⟩ := World.ownsRow.form h hn
  exact ⟨g, by injection hv, h1, h2⟩
theorem blk (h : CRow w B a n cap c) {k : Nat} (hk : (Value.slice a n cap).ownBlock = some k) : B ≤ k ∧ k < w.heap.size := World.ownsRow.lt h k hk
theorem cell {g : Nat} (h : CRow w B (some ⟨g, 0, none⟩) n cap c) {j : Nat} (hj : j < n) : w.cell? ⟨g, j * 2, none⟩ = some (.int .i64 (c j).st) ∧ w.cell? ⟨g, j * 2 + 1, none⟩ = some (.string (c j).d) := by
  have hg := cellsL_get c n j hj
  have h1 := World.ownsRow.cells h (g := g) rfl (j * 2) _ hg.1
  have h2 := World.ownsRow.cells h (g := g) rfl (j * 2 + 1) _ hg.2
  rw [Addr.add_lit, Nat.zero_add] at h1 h2
  exact ⟨h1, h2⟩
theorem of_block (h : CRow w B a n cap c) (hb : ∀ k, (Value.slice a n cap).ownBlock = some k → w'.heap[k]? = w.heap[k]?) : CRow w' B a n cap c := by
  obtain ⟨h1, h2⟩ := h
  refine ⟨h1, ?_⟩
  rcases h2 with h | ⟨g, cap, cur, hv, hg, hh, r⟩
  · exact .inl h
  · exact .inr ⟨g, cap, cur, hv, hg, (hb g (by rw [hv]; rfl)).trans hh, r⟩
theorem below {B' : Nat} (h : CRow w B a n cap c) (hb : Below B' w w') (hB : w.heap.size ≤ B') : CRow w' B a n cap c := h.of_block fun k hk => hb.block k (by have := (h.blk hk).2; omega)
theorem kept (h : CRow w B a n cap c) (hb : Below w.heap.size w w') : CRow w' B a n cap c := h.below hb (Nat.le_refl _)
theorem alloc (h : CRow w B a n cap c) (o : Obj) : CRow (w.alloc o) B a n cap c := World.ownsRow.alloc h o
theorem low {B' : Nat} (h : CRow w B a n cap c) (hb : B' ≤ B) : CRow w B' a n cap c := by
  obtain ⟨h1, h2⟩ := h
  refine ⟨h1, ?_⟩
  rcases h2 with h | ⟨g, cap, cur, hv, hg, hh, r⟩
  · exact .inl h
  · exact .inr ⟨g, cap, cur, hv, by omega, hh, r⟩
end CRow
theorem Try.infoCell : (Try.prog.info? 23).map (fun i => (i.zero, i.size, i.bytes)) = some (some (.agg #[.int .i64 0, .string ⟨#[]⟩]), 2, 24) := by kernel_rfl
theorem below_grow {B : Nat} {a b c : World} {row : Option Nat} (h : Below B a b) (k : b.grownBy c row) (hg : ∀ j, row = some j → B ≤ j) (hB : B ≤ b.heap.size) : Below B a c :=
  ⟨k.os.trans h.os, k.tape.trans h.tape, k.output.trans h.output, Nat.le_trans h.size k.size, fun i hi => (k.block i (by omega) (fun e => by have := hg i e.symm; omega)).trans (h.block i hi)⟩

set_option maxHeartbeats 2000000 in
theorem cells_any (p : Pg) (w : World) :
    Calls Try.prog 45 #[p.v] w fun e w' => ∃ (a : Option Addr) (cap : Nat), e = .returned (.slice a (cnt p.c) cap) ∧ CRow w' w.heap.size a (cnt p.c) cap p.c ∧ Below w.heap.size w w' := by
  have HCQ := Lib.hid (cnt_eq p.c)
  generalize hC : cnt p.c = C at HCQ ⊢
  clear hC
  obtain ⟨i0, hi, hz0, hz1, hz2⟩ := info_parts Try.infoCell
  unfold Pg.v
  go_enter Try.func45, Try.ntmps45
  go_wp2_with fail
  go_loopw [3, 4] (fun v i wr => ∃ (j : Nat) (a : Option Addr) (cap : Nat), j ≤ 6 ∧ i = .int .i64 j ∧ v = .slice a j cap ∧ (∀ q, q < j → (p.c q).st ≠ 0) ∧ CRow wr w.heap.size a j cap p.c ∧ Bk wr w.heap.size 40 p.cs ∧ Below w.heap.size w wr ∧ w.heap.size < wr.heap.size) (fun _ i _ => 6 - (intOf i).toNat)
  case atStart => exact ⟨0, none, 0, by omega, rfl, rfl, (fun q hq => absurd hq (Nat.not_lt_zero _)), CRow.nil _ _ _, Bk.new _ _ _, (Below.refl _ _).alloc (Nat.le_refl _) _, by simp⟩
  case round =>
    obtain ⟨j, a, cap, hj, rfl, rfl, hq, hr, hk, hb, hz⟩ := hrel
    have HQ := Lib.hid hq; have HR := Lib.hid hr; have HK := Lib.hid hk; have HB := Lib.hid hb; have HZ := Lib.hid hz
    clear hq hr hk hb hz
    by_cases hlt : j < 6
    · obtain ⟨y0, y1⟩ := pg_cell HK.out j hlt
      by_cases h0 : (p.c j).st = 0
      · rw [h0] at y0
        have H0 := Lib.hid h0
        have E := Lib.hid (HCQ.out j (by omega) HQ.out (fun _ => H0.out))
        clear h0 hi hz0 hz1 hz2
        go_wp2
        go_ret
        exact ⟨a, cap, by rw [E.out]; rfl, by rw [E.out]; exact HR.out, HB.out⟩
      · have h0' : ((p.c j).st != 0) = true := by simp [h0]
        have q2 : ∀ q, q < j + 1 → (p.c q).st ≠ 0 := fun q hq => by
          by_cases e : q = j
          · rw [e]; exact h0
          · exact HQ.out q (by omega)
        have Q2 := Lib.hid q2
        have hne : ∀ k, (Value.slice a j cap).ownBlock = some k → k ≠ w.heap.size := fun k hk e => by
          subst e
          obtain ⟨_, hlt2⟩ := HR.out.blk hk
          rcases HR.out.2 with ⟨hv, _⟩ | ⟨g, cap', cur, hv, hg, hh, _⟩
          · rw [hv] at hk; simp [Value.ownBlock] at hk
          · rw [hv] at hk
            simp only [Value.ownBlock, Option.some.injEq] at hk
            subst hk
            have hx := HK.out
            unfold Bk at hx
            rw [hx] at hh
            injection hh with hh
            injection hh with _ ht
            exact absurd ht (by decide)
        have NE := Lib.hid hne
        have KA := Lib.hid (HR.out.alloc (.cells #[.int .i64 (p.c j).st, .string (p.c j).d] 23))
        clear q2 h0 hne
        have hcs : Ce.cs (p.c j) = [.int .i64 (p.c j).st, .string (p.c j).d] := rfl
        have HCS := Lib.hid hcs
        clear hcs
        generalize (p.c j).st = st at *
        generalize (p.c j).d = d at *
        go_wp2_with (at_builtin; refine wpList_append_one _ rfl _ _ 78 rfl w.heap.size 23 i0 (.agg #[.int .i64 0, .string ⟨#[]⟩]) 2 24 Try.underlying78 hi hz0 hz1 hz2 rfl (.slice a j cap) j (cellsL p.c j) rfl KA.out ⟨wr.heap.size, 0, none⟩ 1 [.int .i64 st, .string d] rfl rfl ?qc2 ?qc3 ?qc4 (by omega) ?qc5 ?qc6 ?_)
        case qc2 =>
          intro q u hu
          have hn := (Bk.new wr 23 #[.int .i64 st, .string d]).cell q
          rw [Addr.add_lit, Nat.zero_add, hn]
          simpa using hu
        case qc3 => intro u hu; simp at hu; rcases hu with rfl | rfl <;> rfl
        case qc4 => unfold maxLen; omega
        case qc5 => omega
        case qc6 => have := HB.out.size; simp; omega
        intro v' w2 hown hgrow
        obtain ⟨a', cap', rfl⟩ : ∃ a' cap', v' = .slice a' (j + 1) cap' := by
          rcases hown.2 with ⟨_, e⟩ | ⟨g, cap', _, e, _⟩
          · omega
          · exact ⟨_, _, e⟩
        have r2 : CRow w2 w.heap.size a' (j + 1) cap' p.c := by
          have := hown
          unfold CRow
          simp only [cellsL]
          rw [HCS.out]
          exact this
        have R2 := Lib.hid r2
        have K2 := Lib.hid ((HK.out.alloc (.cells #[.int .i64 st, .string d] 23)).grown hgrow (fun e => NE.out _ e.symm rfl))
        have B2 := Lib.hid (below_grow (HB.out.alloc HB.out.size (.cells #[.int .i64 st, .string d] 23)) hgrow (fun k hk => (HR.out.blk hk).1) (by have := HB.out.size; simp; omega))
        have Z2 := Lib.hid (show w.heap.size < w2.heap.size by have := HZ.out; have h := hgrow.size; simp at h; omega)
        clear r2 hown hgrow y0 y1 HR HK HB HZ
        go_wp2
        go_roundw
        case rel => exact ⟨j + 1, a', cap', by omega, by go_num, rfl, Q2.out, R2.out, K2.out, B2.out, Z2.out⟩
        case measure => simp [intOf]; omega
    · obtain rfl : j = 6 := by omega
      have E := Lib.hid (HCQ.out 6 (by omega) HQ.out (fun h => by omega))
      clear hi hz0 hz1 hz2
      go_wp2
      go_ret
      exact ⟨a, cap, by rw [E.out]; rfl, by rw [E.out]; exact HR.out, HB.out⟩
end Go.Proofs.Ytedoechjjcbeeaa
