/- The walks of the reference's End and of the law's own awake. -/
import Derived.Test.YtokghbppdmlfkaaDoorPlnNeeds
import Derived.Laws.StructEq
import Derived.ChangeKeysEq
set_option linter.unusedVariables false
set_option linter.unusedSimpArgs false
namespace Go.Proofs.YtokghbppdmlfkaaDoor
open Go.RowKit

def nEnd : Nat := 256 ^ 9 - 1
theorem nEnd_rest : ∀ k : Fin 9, ((Oct.rest nEnd k % 256 : Nat) : Int) = 255 := by decide +kernel
theorem nEnd_str : Oct.str nEnd 9 = endB := by decide +kernel
set_option maxHeartbeats 1000000 in
theorem end_any (w : World) :
    Calls Tryd.prog 12 #[] w fun e w' => e = .returned (.string endB) ∧ Below w.heap.size w w' := by
  have NR := Lib.hid nEnd_rest; have NS := Lib.hid nEnd_str
  obtain ⟨n, hnE⟩ : ∃ n, n = nEnd := ⟨_, rfl⟩
  rw [← hnE] at NR NS
  clear hnE
  obtain ⟨i0, hi, hz0, hz1, hz2⟩ := info_parts Tryd.info5
  have hmk := fun wx => run_make (P := Tryd.prog) wx 55 5 i0 (.int .u8 0) Tryd.underlying55 hi hz0 .i64 .i64 9 9 (by omega) (by omega) (by rw [hz2]; omega) (by omega)
  simp only [hz1, Nat.mul_one, Value.cells, show Int.toNat 9 = 9 from rfl, Oct.cells_start n 9] at hmk
  clear hi hz0 hz1 hz2
  have hsz := Oct.cells_size n 9
  have hst := fun wx => Oct.run_cells (P := Tryd.prog) wx 55 9 5 n 9 9 Tryd.underlying55 Tryd.underlying5 Tryd.underlying9
  go_enter Tryd.func12, Tryd.ntmps12
  go_wp2
  go_loopw [2] (fun i wr => ∃ k : Nat, k ≤ 9 ∧ i = .int .i64 k ∧ wr = w.alloc (.cells (Oct.cells n 9 k) 5)) (fun i _ => 9 - (intOf i).toNat)
  case atStart => exact ⟨0, Nat.zero_le _, rfl, rfl⟩
  case round =>
    obtain ⟨k, hk, rfl, rfl⟩ := hrel
    by_cases hlt : k < 9
    · have cs := Oct.cells_set n 9 k 255 (NR.out ⟨k, hlt⟩).symm
      have CSS := Lib.hid cs
      clear cs
      go_wp2
      go_roundw
      case rel => exact ⟨k + 1, by omega, by go_num, by rw [CSS.out]⟩
      case measure => simp [intOf]; omega
    · obtain rfl : k = 9 := by omega
      go_wp2
      go_ret
      exact ⟨by rw [← NS.out]; rfl, (Below.refl _ _).alloc (Nat.le_refl _) _⟩

def ndB (a b : Nd) : Bool := (a.st == b.st && a.it.toList == b.it.toList) && a.m == b.m
theorem name_eq (d : Nat) (a b : Nd) (w : World) : (Op.equalIn (d + 1 + 1) 38 (.agg #[.int .i64 a.st, .string a.it]) (.agg #[.int .i64 b.st, .string b.it])).run Tryd.prog w = .ok (a.st == b.st && a.it.toList == b.it.toList) w := by
  go_simp
  by_cases h1 : a.st = b.st <;> by_cases h2 : a.it.toList = b.it.toList <;> simp [h1, h2]
theorem need_equal (a b : Nd) (w : World) : (Op.equalIn 10000 40 (.agg #[.int .i64 a.st, .string a.it, .int .i64 a.m]) (.agg #[.int .i64 b.st, .string b.it, .int .i64 b.m])).run Tryd.prog w = .ok (ndB a b) w := by
  have hc := fun w => name_eq 9997 a b w
  go_simp
  unfold ndB
  by_cases h1 : a.st = b.st <;> by_cases h2 : a.it.toList = b.it.toList <;> by_cases h3 : a.m = b.m <;> simp [h1, h2, h3]
theorem need_eql (a b : Nd) (w : World) : (binOp .eql 40 (.agg #[.int .i64 a.st, .string a.it, .int .i64 a.m]) (.agg #[.int .i64 b.st, .string b.it, .int .i64 b.m])).run Tryd.prog w = .ok (.bool (ndB a b)) w := by
  rw [run_eql_struct, need_equal]; rfl
theorem need_neq (a b : Nd) (w : World) : (binOp .neq 40 (.agg #[.int .i64 a.st, .string a.it, .int .i64 a.m]) (.agg #[.int .i64 b.st, .string b.it, .int .i64 b.m])).run Tryd.prog w = .ok (.bool (!(ndB a b))) w := by
  rw [run_neq_struct, need_equal]; rfl
theorem ndB_self (a : Nd) : ndB a a = true := by simp [ndB]
theorem ndL_get : ∀ (l : List Nd) (i : Nat) (d : Nd), l[i]? = some d → ∀ j u, d.cs[j]? = some u → (ndL l)[i * 3 + j]? = some u
  | e :: l, 0, d, h, j, u, hu => by
    have : e = d := by simpa using h
    subst this
    have hj : j < e.cs.length := (List.getElem?_eq_some_iff.1 hu).1
    show (e.cs ++ ndL l)[0 * 3 + j]? = some u
    rw [Nat.zero_mul, Nat.zero_add, List.getElem?_append_left hj]; exact hu
  | e :: l, i + 1, d, h, j, u, hu => by
    have h' : l[i]? = some d := by simpa using h
    show (e.cs ++ ndL l)[(i + 1) * 3 + j]? = some u
    have hl : e.cs.length = 3 := rfl
    rw [List.getElem?_append_right (by rw [hl]; omega), hl, show (i + 1) * 3 + j - 3 = i * 3 + j by omega]
    exact ndL_get l i d h' j u hu
/-- A need in its row: where its three cells lie. -/
theorem nd_at {w : World} {B : Nat} {v : Value} {l : List Nd} (h : NdAt w B v l) (hl : 0 < l.length) : ∃ g c, v = .slice (some ⟨g, 0, none⟩) l.length c ∧ B ≤ g ∧ g < w.heap.size ∧ ∀ i d, l[i]? = some d → w.cell? ⟨g, i * 3, none⟩ = some (.int .i64 d.st) ∧ w.cell? ⟨g, i * 3 + 1, none⟩ = some (.string d.it) ∧ w.cell? ⟨g, i * 3 + 2, none⟩ = some (.int .i64 d.m) := by
  rcases h.2 with ⟨_, h0⟩ | ⟨g, cap, cur, rfl, hB, r⟩
  · omega
  · refine ⟨g, cap, rfl, hB, (h.lt g rfl).2, fun i d hd => ?_⟩
    have c := fun j u hu => h.cells (g := g) rfl (i * 3 + j) u (ndL_get l i d hd j u hu)
    have c0 := c 0 _ rfl
    have c1 := c 1 _ rfl
    have c2 := c 2 _ rfl
    rw [Addr.add_lit, Nat.zero_add] at c0 c1 c2
    exact ⟨c0, c1, c2⟩
theorem nd_kept {w w' : World} {B : Nat} {v : Value} {l : List Nd} (h : NdAt w B v l) (hb : Below w.heap.size w w') : NdAt w' B v l := by
  refine ⟨h.1, ?_⟩
  rcases h.2 with h0 | ⟨g, cap, cur, hv, hB, hh, r⟩
  · exact .inl h0
  · refine .inr ⟨g, cap, cur, hv, hB, (hb.block g (h.lt g (by rw [hv]; rfl)).2).trans hh, r⟩
def o0 : Opn := ⟨0, 1, ⟨#[99]⟩, ⟨#[]⟩, 0, 0, 0⟩
def q0 : Opn := ⟨13, 1, ⟨#[99]⟩, ⟨#[]⟩, 0, 0, 0⟩
theorem q0_needs : needsL q0 ⟨#[100]⟩ [] 0 = [⟨0, ⟨#[]⟩, 2⟩, ⟨1, ⟨#[]⟩, 2⟩, ⟨1, ⟨#[99]⟩, 6⟩, ⟨1, ⟨#[100]⟩, 6⟩] := by kernel_rfl

set_option maxRecDepth 100000 in
set_option maxHeartbeats 2000000 in
theorem awake_any (w : World) (hT : Tab w) :
    Calls Tryd.prog 6 #[] w fun e w' => e = .returned (.bool true) ∧ Below w.heap.size w w' := by
  have CN := needs_any o0 q0 ⟨#[100]⟩ (.slice none 0 0) [] 0 w ⟨hT, tx_nil _ _, by simp, rfl, rfl, rfl, by decide, by decide⟩
  rw [q0_needs] at CN
  unfold NeedsPost at CN
  have C := Lib.hid (show Calls Tryd.prog 7 #[.iface 32 (.agg #[.int .i64 0, .int .i64 1, .string ⟨#[99]⟩, .string ⟨#[]⟩, .int .i64 0, .int .i64 0, .int .i64 0, .string ⟨#[100]⟩, .slice none 0 0, .int .i64 0]), .agg #[.int .i64 13, .int .i64 1, .string ⟨#[99]⟩, .string ⟨#[]⟩, .int .i64 0, .int .i64 0, .int .i64 0]] w _ from CN)
  have CE := Lib.hid end_any
  have q1 := fun w => need_eql ⟨0, ⟨#[]⟩, 2⟩ ⟨0, ⟨#[]⟩, 2⟩ w
  have q2 := fun w => need_eql ⟨1, ⟨#[100]⟩, 6⟩ ⟨1, ⟨#[100]⟩, 6⟩ w
  rw [ndB_self] at q1 q2
  clear CN hT
  go_enter Tryd.func6, Tryd.ntmps6
  go_wp2_with fail
  refine C.out.mono ?_
  rintro e w1 ⟨v, rfl, hN, hb⟩
  obtain ⟨g, c, rfl, hB, hg, hc⟩ := nd_at hN (by simp)
  obtain ⟨a0, a1, a2⟩ := hc 0 _ rfl
  obtain ⟨b0, b1, b2⟩ := hc 3 _ rfl
  have B1 := Lib.hid hb
  clear hN hb hc C
  dsimp only [List.length_cons, List.length_nil] at *
  go_wp2_with fail
  refine (CE.out _).mono ?_
  rintro e w2 ⟨rfl, hb⟩
  have B2 := Lib.hid (below_then B1.out hb B1.out.size)
  have hq : (endB.toList == endB.toList) = true := by simp
  unfold endB at *
  clear hb
  go_wp2
  go_ret
  exact ⟨rfl, B2.out⟩
end Go.Proofs.YtokghbppdmlfkaaDoor
