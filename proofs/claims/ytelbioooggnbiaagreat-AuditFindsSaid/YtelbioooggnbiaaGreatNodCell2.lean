/- The walks of package node on cells: Leaf, Inner and the tests; of the document's own. -/
import Derived.Test.YtelbioooggnbiaaGreatNodCell
set_option linter.unusedVariables false
set_option linter.unusedSimpArgs false
namespace Go.Proofs.YtelbioooggnbiaaGreat
open Go.RowKit

def leafOk (key val : ByteArray) (st : Int) : Prop := 1 ≤ key.size ∧ key.size ≤ 8 ∧ val.size ≤ 20 ∧ (st = 1 ∨ st = 2)
instance (key val : ByteArray) (st : Int) : Decidable (leafOk key val st) := by unfold leafOk; infer_instance
def leafC (key val : ByteArray) (st : Int) : Ce := if leafOk key val st then ⟨st, dat key val⟩ else ⟨0, ⟨#[]⟩⟩
def leafE (key val : ByteArray) (st : Int) : Int := if leafOk key val st then 0 else 1
def innerOk (key : ByteArray) (child : Int) : Prop := key.size ≤ 8 ∧ 1 ≤ child ∧ child < 1024
instance (key : ByteArray) (child : Int) : Decidable (innerOk key child) := by unfold innerOk; infer_instance
def innerC (key : ByteArray) (child : Int) : Ce := if innerOk key child then ⟨1, dat key (Oct.str child.toNat 4)⟩ else ⟨0, ⟨#[]⟩⟩
def innerE (key : ByteArray) (child : Int) : Int := if innerOk key child then 0 else 1
theorem cell_res {fn : Func} {p u : Tmp} (hf : fn.results = #[.cell p 35, .tmp u]) (tmps : Array Value) (w : World) (g : Nat) (a b : Value) (h : Bk w g 35 #[a, b]) (hp : tmps.getD p undef = .pointer (some ⟨g, 0, none⟩)) :
    (results fn tmps).run Tryz.prog w = .ok (.tuple #[.agg #[a, b], tmps.getD u undef]) w := by
  rw [results_cell_tmp hf, hp]
  have := run_loadVar_row (P := Tryz.prog) w g 35 35 #[a, b] (0, 0) _ h Tryz.underlying35 rfl (by kernel_rfl)
  simp [asAddr, Sem.run_pure, Result.andThen, this]
set_option maxHeartbeats 1000000 in
theorem leaf_any (key val : ByteArray) (st : Int) (w : World) (hk : key.size ≤ maxLen) (hv : val.size ≤ maxLen) :
    Calls Tryz.prog 54 #[.string key, .string val, .int .i64 st] w fun e w' => e = .returned (.tuple #[(leafC key val st).v, .int .i64 (leafE key val st)]) ∧ Below w.heap.size w w' := by
  unfold maxLen at hk hv
  by_cases h : leafOk key val st
  · unfold leafC leafE
    rw [if_pos h, if_pos h]
    unfold Ce.v
    dsimp only
    have cd := fun w => data_any key val w (by have := h.2.1; omega) (by have := h.2.1; have := h.2.2.1; unfold maxLen; omega)
    generalize dat key val = D at *
    have CD := Lib.hid cd
    obtain ⟨h1, h2, h3, h4⟩ := h
    have h1' : ¬ (key.size : Int) < 1 := by omega
    have h2' : ¬ (8 : Int) < key.size := by omega
    have h3' : ¬ (20 : Int) < val.size := by omega
    clear cd h1 h2 h3
    rcases h4 with rfl | rfl
    all_goals
      go_enter Tryz.func54, Tryz.ntmps54
      go_wp2_with fail
      refine (CD.out _).mono ?_
      rintro e w2 ⟨rfl, hb2⟩
      have K2 := Lib.hid ((Bk.new w 35 #[.int .i64 0, .string ⟨#[]⟩]).kept hb2)
      have B2 := Lib.hid (below_then ((Below.refl _ _).alloc (Nat.le_refl _) (.cells #[.int .i64 0, .string ⟨#[]⟩] 35)) hb2 (by simp))
      have c0 := K2.out.cell 0; have c1 := K2.out.cell 1
      have f0 := K2.out.fz 0; have f1 := K2.out.fz 1
      simp only [List.getElem?_toArray, List.getElem?_cons_zero, List.getElem?_cons_succ] at c0 c1
      clear hb2 CD
      go_wp2
      refine bodyPost_ret (cell_res rfl _ _ w.heap.size _ _ ((K2.out.set 0 _).set 1 _) rfl) rfl ?_
      exact ⟨rfl, (B2.out.setCell (Nat.le_refl _) _).setCell (Nat.le_refl _) _⟩
  · unfold leafC leafE
    rw [if_neg h, if_neg h]
    unfold Ce.v
    dsimp only
    unfold leafOk at h
    by_cases a1 : (key.size : Int) < 1
    · clear h
      (go_enter Tryz.func54, Tryz.ntmps54
       go_wp2
       refine bodyPost_ret (cell_res rfl _ _ w.heap.size _ _ (Bk.new _ _ _) rfl) rfl ?_
       exact ⟨rfl, (Below.refl _ _).alloc (Nat.le_refl _) _⟩)
    by_cases a2 : (8 : Int) < key.size
    · clear h
      (go_enter Tryz.func54, Tryz.ntmps54
       go_wp2
       refine bodyPost_ret (cell_res rfl _ _ w.heap.size _ _ (Bk.new _ _ _) rfl) rfl ?_
       exact ⟨rfl, (Below.refl _ _).alloc (Nat.le_refl _) _⟩)
    by_cases a3 : (20 : Int) < val.size
    · clear h
      (go_enter Tryz.func54, Tryz.ntmps54
       go_wp2
       refine bodyPost_ret (cell_res rfl _ _ w.heap.size _ _ (Bk.new _ _ _) rfl) rfl ?_
       exact ⟨rfl, (Below.refl _ _).alloc (Nat.le_refl _) _⟩)
    · have a4 : (st != 1) = true := by simp only [bne_iff_ne, ne_eq]; intro e; exact h ⟨by omega, by omega, by omega, .inl e⟩
      have a5 : (st != 2) = true := by simp only [bne_iff_ne, ne_eq]; intro e; exact h ⟨by omega, by omega, by omega, .inr e⟩
      clear h
      (go_enter Tryz.func54, Tryz.ntmps54
       go_wp2
       refine bodyPost_ret (cell_res rfl _ _ w.heap.size _ _ (Bk.new _ _ _) rfl) rfl ?_
       exact ⟨rfl, (Below.refl _ _).alloc (Nat.le_refl _) _⟩)
set_option maxHeartbeats 1000000 in
theorem inner_any (key : ByteArray) (child : Int) (w : World) (hk : key.size ≤ maxLen) :
    Calls Tryz.prog 90 #[.string key, .int .i64 child] w fun e w' => e = .returned (.tuple #[(innerC key child).v, .int .i64 (innerE key child)]) ∧ Below w.heap.size w w' := by
  unfold maxLen at hk
  by_cases h : innerOk key child
  · unfold innerC innerE
    rw [if_pos h, if_pos h]
    unfold Ce.v
    dsimp only
    obtain ⟨h1, h2, h3⟩ := h
    obtain ⟨n, rfl⟩ := Int.eq_ofNat_of_zero_le (show 0 ≤ child by omega)
    simp only [Int.toNat_natCast]
    have hz := Oct.str_size n 4
    have ci := fun w => ischild_any (n : Int) w
    have cn := fun w => num_fits n 4 w (by omega) (by omega) (by omega) (rest_small n 4 (by omega))
    have cd := fun w => data_any key (Oct.str n 4) w (by omega) (by rw [hz]; unfold maxLen; omega)
    rw [decide_eq_true (show 1 ≤ (n : Int) ∧ (n : Int) < 1024 from ⟨h2, h3⟩)] at ci
    generalize dat key (Oct.str n 4) = D at *
    generalize Oct.str n 4 = t at *
    have CD := Lib.hid cd; have CN := Lib.hid cn; have CI := Lib.hid ci
    have h1' : ¬ (8 : Int) < key.size := by omega
    have h2' : ¬ (n : Int) < 1 := by omega
    have h3' : ¬ (1023 : Int) < n := by omega
    clear cd cn ci h1
    · go_enter Tryz.func90, Tryz.ntmps90
      go_wp2_with fail
      refine (CI.out _).mono ?_
      rintro e w3 ⟨rfl, rfl⟩
      go_wp2_with fail
      refine (CN.out _).mono ?_
      rintro e w3 ⟨rfl, rfl⟩
      have K1 := Lib.hid (((Bk.new w 35 #[.int .i64 0, .string ⟨#[]⟩])).alloc (.cells (Oct.cells n 4 4) 5))
      have B1 := Lib.hid (((Below.refl w.heap.size w).alloc (Nat.le_refl _) (.cells #[.int .i64 0, .string ⟨#[]⟩] 35)).alloc (by simp) (.cells (Oct.cells n 4 4) 5))
      go_wp2_with fail
      refine (CD.out _).mono ?_
      rintro e w2 ⟨rfl, hb2⟩
      have K2 := Lib.hid (K1.out.kept hb2)
      have B2 := Lib.hid (below_then B1.out hb2 (by first | exact B1.out.size | (simp; omega)))
      have c0 := K2.out.cell 0; have c1 := K2.out.cell 1
      have f0 := K2.out.fz 0; have f1 := K2.out.fz 1
      simp only [List.getElem?_toArray, List.getElem?_cons_zero, List.getElem?_cons_succ] at c0 c1
      clear hb2 CD
      go_wp2
      refine bodyPost_ret (cell_res rfl _ _ w.heap.size _ _ ((K2.out.set 0 _).set 1 _) rfl) rfl ?_
      exact ⟨rfl, (B2.out.setCell (Nat.le_refl _) _).setCell (Nat.le_refl _) _⟩
  · unfold innerC innerE
    rw [if_neg h, if_neg h]
    unfold Ce.v
    dsimp only
    have ci := fun w => ischild_any child w
    have CI := Lib.hid ci
    by_cases h8 : (8 : Int) < key.size
    · go_enter Tryz.func90, Tryz.ntmps90
      go_wp2
      refine bodyPost_ret (cell_res rfl _ _ w.heap.size _ _ (Bk.new _ _ _) rfl) rfl ?_
      exact ⟨rfl, (Below.refl _ _).alloc (Nat.le_refl _) _⟩
    · have hc : ¬ (1 ≤ child ∧ child < 1024) := fun k => h ⟨by omega, k.1, k.2⟩
      rw [decide_eq_false hc] at CI
      clear h ci
      go_enter Tryz.func90, Tryz.ntmps90
      go_wp2_with fail
      refine (CI.out _).mono ?_
      rintro e w3 ⟨rfl, rfl⟩
      go_wp2
      all_goals
        first
          | (exfalso; omega)
          | (refine bodyPost_ret (cell_res rfl _ _ w.heap.size _ _ (Bk.new _ _ _) rfl) rfl ?_
             exact ⟨rfl, (Below.refl _ _).alloc (Nat.le_refl _) _⟩)
end Go.Proofs.YtelbioooggnbiaaGreat
