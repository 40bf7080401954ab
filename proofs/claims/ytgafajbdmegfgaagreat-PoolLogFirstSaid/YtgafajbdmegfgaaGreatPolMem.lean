/- Layer 12: a pool in memory; has, sector, find. -/
import Derived.Test.YtgafajbdmegfgaaGreatPolPlain
import Derived.Test.YtgafajbdmegfgaaGreatApp1
import Derived.Test.YtgafajbdmegfgaaGreatPgMem
import Derived.Test.YtgafajbdmegfgaaGreatOwn
import Derived.BigQuiet
set_option linter.unusedVariables false
set_option linter.unusedSimpArgs false
namespace Go.Proofs.YtgafajbdmegfgaaGreat
open Go.RowKit

structure Pd where
  g : Nat
  sv : Value
  bs : List Nat
  dp : Value
  lp : Value
def Pd.box (J : Pd) (P : Po) : Array Value := #[J.dp, J.lp, .int .i64 (P.base : Int), .int .i64 (P.pages : Int), .int .i64 (P.frames : Int), J.sv, .int .i64 (P.hand : Int)]
def Pd.ptr (J : Pd) : Value := .pointer (some ⟨J.g, 0, none⟩)
def ptrs (l : List Nat) : List Value := l.map fun b => .pointer (some ⟨b, 0, none⟩)
theorem ptrs_len (l : List Nat) : (ptrs l).length = l.length := List.length_map _
theorem ptrs_get (l : List Nat) (i : Nat) (h : i < l.length) : (ptrs l)[i]? = some (.pointer (some ⟨l[i], 0, none⟩)) := by
  unfold ptrs; rw [List.getElem?_map, List.getElem?_eq_getElem h]; rfl
/-- A pool of so many slots, apart from its log and its device. -/
structure Pq (w : World) (B : Nat) (J : Pd) (P : Po) : Prop where
  box : Bk w J.g 75 (J.box P)
  bg : B ≤ J.g
  row : w.ownsRow B 83 1 J.sv P.ss.length (ptrs J.bs)
  bl : J.bs.length = P.ss.length
  sl : ∀ j (hb : j < J.bs.length) (hs : j < P.ss.length), Bk w (J.bs[j]) 82 (P.ss[j]).cs
  bb : ∀ b ∈ J.bs, B ≤ b
  nd : J.bs.Nodup
  ok : P.ok
namespace Pq
variable {w w' : World} {B : Nat} {J : Pd} {P : Po}
theorem cells (h : Pq w B J P) : w.cell? ⟨J.g, 0, none⟩ = some J.dp ∧ w.cell? ⟨J.g, 1, none⟩ = some J.lp ∧ w.cell? ⟨J.g, 2, none⟩ = some (.int .i64 (P.base : Int)) ∧ w.cell? ⟨J.g, 3, none⟩ = some (.int .i64 (P.pages : Int)) ∧ w.cell? ⟨J.g, 4, none⟩ = some (.int .i64 (P.frames : Int)) ∧ w.cell? ⟨J.g, 5, none⟩ = some J.sv ∧ w.cell? ⟨J.g, 6, none⟩ = some (.int .i64 (P.hand : Int)) :=
  ⟨h.box.cell 0, h.box.cell 1, h.box.cell 2, h.box.cell 3, h.box.cell 4, h.box.cell 5, h.box.cell 6⟩
theorem of_same (h : Pq w B J P) (hb : ∀ k, k < w.heap.size → (∃ t cs, Bk w k t cs ∧ (t = 75 ∨ t = 82 ∨ t = 83)) → w'.heap[k]? = w.heap[k]?) : Pq w' B J P where
  box := (hb _ h.box.lt ⟨_, _, h.box, .inl rfl⟩).trans h.box
  bg := h.bg
  row := owns_of_block h.row fun k hk => by
    obtain ⟨h1, h2, c, hc⟩ := owns_block h.row hk
    exact hb k h2 ⟨_, _, hc, .inr (.inr rfl)⟩
  bl := h.bl
  sl := fun j h1 h2 => (hb _ (h.sl j h1 h2).lt ⟨_, _, h.sl j h1 h2, .inr (.inl rfl)⟩).trans (h.sl j h1 h2)
  bb := h.bb
  nd := h.nd
  ok := h.ok
theorem kept (h : Pq w B J P) (hb : Below w.heap.size w w') : Pq w' B J P := h.of_same fun k hk _ => hb.block k hk
theorem alloc (h : Pq w B J P) (o : Obj) : Pq (w.alloc o) B J P := h.of_same fun k hk _ => Below.heap_alloc w o k hk
theorem drew (h : Pq w B J P) : Pq w.drew B J P := h.of_same fun _ _ _ => rfl
theorem drewN (h : Pq w B J P) (n : Nat) : Pq (w.drewN n) B J P := h.of_same fun _ _ _ => rfl
/-- What the device's and the log's own work touches is no pool's. -/
theorem out {p : Nat → Prop} (h : Pq w B J P) (ho : Out w w' p) (hp : ∀ k, k < w.heap.size → p k → ∃ t cs, Bk w k t cs ∧ t ≠ 75 ∧ t ≠ 82 ∧ t ≠ 83) : Pq w' B J P := h.of_same fun k hk ⟨t, cs, hc, ht⟩ => ho.block k hk fun hpk => by
  obtain ⟨t', cs', hc', n1, n2, n3⟩ := hp k hk hpk
  have e : t = t' := Classical.byContradiction fun hne => Bk.ne_ hc hc' hne rfl
  subst e
  rcases ht with rfl | rfl | rfl
  · exact n1 rfl
  · exact n2 rfl
  · exact n3 rfl
theorem slt (h : Pq w B J P) {b : Nat} (hb : b ∈ J.bs) : b < w.heap.size := by
  obtain ⟨j, hj, rfl⟩ := List.mem_iff_getElem.1 hb
  exact (h.sl j hj (by rw [← h.bl]; exact hj)).lt
theorem slice (h : Pq w B J P) : ∃ a c, J.sv = .slice a P.ss.length c := tx_slice h.row
theorem few (h : Pq w B J P) : P.ss.length ≤ 256 := Nat.le_trans h.ok.len h.ok.f2
/-- The pointer that stands at a place. -/
theorem at_ (h : Pq w B J P) (j : Nat) (hj : j < J.bs.length) : ∃ g c, J.sv = .slice (some ⟨g, 0, none⟩) P.ss.length c ∧ B ≤ g ∧ g < w.heap.size ∧ w.cell? ⟨g, j, none⟩ = some (.pointer (some ⟨J.bs[j], 0, none⟩)) := by
  have hl := h.bl
  rcases h.row.2 with ⟨_, h0⟩ | ⟨g, cap, cur, hv, hg, hh, h1, h2, h3, h4⟩
  · omega
  · refine ⟨g, cap, hv, hg, (Array.getElem?_eq_some_iff.1 hh).1, ?_⟩
    have := h.row.cells (g := g) (by rw [hv]; rfl) j _ (ptrs_get J.bs j hj)
    rw [Addr.add_lit, Nat.zero_add] at this
    exact this
end Pq
theorem sl_cells {w : World} {b : Nat} {s : Sl} (h : Bk w b 82 s.cs) : w.cell? ⟨b, 0, none⟩ = some (.int .i64 s.id) ∧ w.cell? ⟨b, 17, none⟩ = some (.int .i64 (s.st : Int)) ∧ w.cell? ⟨b, 18, none⟩ = some (.bool s.di) ∧ w.cell? ⟨b, 19, none⟩ = some (.bool s.us) :=
  ⟨h.cell 0, h.cell 17, h.cell 18, h.cell 19⟩
set_option maxHeartbeats 1000000 in
theorem phas_any {w : World} {B : Nat} {J : Pd} {P : Po} (h : Pq w B J P) (id : Int) :
    Calls Tryz.prog 25 #[J.ptr, .int .i64 id] w fun e w' => e = .returned (.bool (decide (0 ≤ id) && decide (id < (P.pages : Int)))) ∧ w' = w := by
  obtain ⟨-, -, -, c3, -, -, -⟩ := h.cells
  unfold Pd.ptr
  clear h
  by_cases h0 : 0 ≤ id
  · have d0 : decide (0 ≤ id) = true := decide_eq_true h0
    by_cases h1 : id < (P.pages : Int)
    · have d1 : decide (id < (P.pages : Int)) = true := decide_eq_true h1
      go_enter Tryz.func25, Tryz.ntmps25
      go_wp2
      go_ret
      exact ⟨by first | rfl | (rw [d0, d1]; rfl), rfl⟩
    · have d1 : decide (id < (P.pages : Int)) = false := decide_eq_false h1
      go_enter Tryz.func25, Tryz.ntmps25
      go_wp2
      go_ret
      exact ⟨by first | rfl | (rw [d0, d1]; rfl), rfl⟩
  · have d0 : decide (0 ≤ id) = false := decide_eq_false h0
    go_enter Tryz.func25, Tryz.ntmps25
    go_wp2
    go_ret
    exact ⟨by first | rfl | (rw [d0]; rfl), rfl⟩
theorem sector_at {w : World} {B : Nat} {J : Pd} {P : Po} (h : Pq w B J P) (id : Nat) (hid : id < 1024) :
    Calls Tryz.prog 49 #[J.ptr, .int .i64 (id : Int)] w fun e w' => e = .returned (.int .i64 ((P.base : Int) + 4 * (id : Int))) ∧ w' = w := by
  obtain ⟨-, -, c2, -, -, -, -⟩ := h.cells
  have hb := h.ok.b0
  unfold Pd.ptr
  clear h
  go_enter Tryz.func49, Tryz.ntmps49
  go_wp2
  go_ret
  exact ⟨by first | rfl | go_num, rfl⟩
theorem pred_any (b K : Nat) (x id : Int) (w : World) (hx : w.cell? ⟨b, 0, none⟩ = some (.int .i64 x)) (hk : w.cell? ⟨K, 0, none⟩ = some (.int .i64 id)) :
    Calls Tryz.prog 48 #[.pointer (some ⟨b, 0, none⟩), .pointer (some ⟨K, 0, none⟩)] w fun e w' => e = .returned (.bool (x == id)) ∧ ∃ n, w' = w.drewN n := by
  go_enter Tryz.func48, Tryz.ntmps48
  go_wp2_with fail
  go_quiet (fail)
  go_wp2
  go_ret
  exact ⟨rfl, _, rfl⟩
set_option maxRecDepth 100000 in
set_option maxHeartbeats 4000000 in
theorem find_any {w : World} {B : Nat} {J : Pd} {P : Po} (h : Pq w B J P) (id : Int) :
    Calls Tryz.prog 26 #[J.ptr, .int .i64 id] w fun e w' => e = .returned (.int .i64 (findL id P.ss)) ∧ Below w.heap.size w w' := by
  have CI : ∀ (K : Nat) (w1 : World), Pq w1 B J P → w1.cell? ⟨K, 0, none⟩ = some (.int .i64 id) → Calls Tryz.prog 47 #[J.sv, .func (.func 48) #[] #[.pointer (some ⟨K, 0, none⟩)]] w1 fun e w' => e = .returned (.int .i64 (findL id P.ss)) ∧ ∃ n, w' = w1.drewN n := by
    intro K w1 h1 hk
    have H1 := Lib.hid h1
    have FEW := Lib.hid h1.few
    have CP := Lib.hid (fun (n : Nat) (j : Nat) (hj : j < J.bs.length) (hs : j < P.ss.length) => pred_any (J.bs[j]) K (P.ss[j]).id id (w1.drewN n) (sl_cells (h1.sl j hj hs)).1 hk)
    obtain ⟨sa, sc, hsv⟩ := h1.slice
    have SV := Lib.hid hsv
    obtain ⟨n, hn⟩ : ∃ n, n = P.ss.length := ⟨_, rfl⟩
    have HN := Lib.hid hn
    rw [hsv, ← hn]
    have n64 : n ≤ 256 := by rw [hn]; exact FEW.out
    have eg := enters_of Tryz.func48 (by kernel_rfl) rfl
    clear h1 hk hsv hn
    go_enter Tryz.func47, Tryz.ntmps47
    go_wp2_with fail
    go_loopw [8] (fun i wr => ∃ j q : Nat, j ≤ n ∧ i = .int .i64 j ∧ (∀ t (ht : t < P.ss.length), t < j → (P.ss[t]).id ≠ id) ∧ wr = w1.drewN q) (fun i _ => n - (intOf i).toNat)
    case atStart => exact ⟨0, 0, Nat.zero_le _, rfl, fun t _ ht => absurd ht (Nat.not_lt_zero t), rfl⟩
    case round =>
      obtain ⟨j, q, hj, rfl, hno, rfl⟩ := hrel
      have NO := Lib.hid hno
      clear hno
      by_cases hlt : j < n
      · have HLT := Lib.hid hlt
        have hjs : j < P.ss.length := by rw [← HN.out]; exact hlt
        have hjb : j < J.bs.length := by rw [H1.out.bl]; exact hjs
        obtain ⟨g, c, e1, -, -, hc⟩ := H1.out.at_ j hjb
        rw [SV.out] at e1
        obtain ⟨rfl, rfl⟩ : sa = some ⟨g, 0, none⟩ ∧ sc = c := by simpa using e1
        have y0 : (w1.drewN q).cell? ⟨g, j, none⟩ = some (.pointer (some ⟨J.bs[j], 0, none⟩)) := hc
        have CC := Lib.hid (CP.out q j hjb hjs)
        obtain ⟨bj, hbj⟩ : ∃ bj, bj = J.bs[j] := ⟨_, rfl⟩
        obtain ⟨xj, hxj⟩ : ∃ xj, xj = (P.ss[j]).id := ⟨_, rfl⟩
        rw [← hbj] at y0 CC
        rw [← hxj] at CC
        have HX := Lib.hid hxj
        clear e1 hc hbj hxj hjb
        have ega := eg #[.pointer (some ⟨bj, 0, none⟩), .pointer (some ⟨K, 0, none⟩)] (w1.drewN q)
        as_aux_lemma =>
          go_wp2_with fail
          refine CC.out.mono ?_
          rintro e w2 ⟨rfl, q2, rfl⟩
          clear CC y0
          by_cases hx : xj = id
          · have hxb : (xj == id) = true := by simp [hx]
            have FL := Lib.hid (findL_at (id := id) j hjs (by rw [← HX.out]; exact hx) (fun i hi => NO.out i (Nat.lt_trans hi hjs) hi))
            clear hx
            go_wp2
            go_ret
            exact ⟨by rw [FL.out]; rfl, _, rfl⟩
          · have hxb : (xj == id) = false := by simp [hx]
            have NX := Lib.hid hx
            clear hx
            go_wp2
            go_roundw
            case rel => exact ⟨j + 1, q + q2, by have := HLT.out; omega, by go_num, fun t ht htj => by
              by_cases e : t = j
              · subst e; rw [← HX.out]; exact NX.out
              · exact NO.out t ht (by omega), by first | rfl | (rw [World.drewN_add]) | (simp [World.drewN])⟩
            case measure => have := HLT.out; simp [intOf]; omega
      · obtain rfl : j = n := by omega
        have FL := Lib.hid (findL_no (id := id) (l := P.ss) (fun s hs => by
          obtain ⟨t, ht, rfl⟩ := List.mem_iff_getElem.1 hs
          exact NO.out t ht (by rw [HN.out]; exact ht)))
        clear hlt
        go_wp2
        go_ret
        exact ⟨by rw [FL.out]; rfl, _, rfl⟩
  have CIH := Lib.hid CI
  clear CI
  have H1 := Lib.hid (h.alloc (.cells #[.int .i64 id] 3))
  have B1 := Lib.hid ((Below.refl w.heap.size w).alloc (Nat.le_refl _) (.cells #[.int .i64 id] 3))
  have y0 : (w.alloc (.cells #[.int .i64 id] 3)).cell? ⟨w.heap.size, 0, none⟩ = some (.int .i64 id) := (Bk.new w 3 #[.int .i64 id]).cell 0
  have y5 : (w.alloc (.cells #[.int .i64 id] 3)).cell? ⟨J.g, 5, none⟩ = some J.sv := H1.out.cells.2.2.2.2.2.1
  obtain ⟨K, hK⟩ : ∃ K, K = w.heap.size := ⟨_, rfl⟩
  have HK := Lib.hid hK
  obtain ⟨sa, sc, hsv⟩ := h.slice
  have CC := Lib.hid (CIH.out K _ H1.out (by rw [hK]; exact y0))
  rw [hsv] at CC y5
  clear y0 h hK hsv CIH
  unfold Pd.ptr
  go_enter Tryz.func26, Tryz.ntmps26
  go_upto_region 1 with fail
  rw [← HK.out]
  generalize w.alloc (.cells #[.int .i64 id] 3) = w1 at *
  as_aux_lemma =>
    go_wp2_with fail
    refine CC.out.mono ?_
    rintro e w2 ⟨rfl, q, rfl⟩
    go_wp2
    go_ret
    exact ⟨rfl, B1.out.trans ⟨rfl, rfl, rfl, Nat.le_refl _, fun _ _ => rfl⟩⟩
end Go.Proofs.YtgafajbdmegfgaaGreat
