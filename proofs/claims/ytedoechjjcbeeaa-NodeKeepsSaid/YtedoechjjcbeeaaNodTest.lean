/- The walks of package node's tests on cells. -/
import Derived.Test.YtedoechjjcbeeaaNodCell
set_option linter.unusedVariables false
set_option linter.unusedSimpArgs false
namespace Go.Proofs.Ytedoechjjcbeeaa
open Go.RowKit

theorem ba_empty5 (d : ByteArray) : d.toList.isEmpty = decide (d.size = 0) := by
  by_cases h : d.size = 0
  · obtain rfl := (ba_empty_iff d).2 h; simp; rfl
  · rw [decide_eq_false h]
    cases hh : d.toList.isEmpty
    · rfl
    · have h2 := str_ne (fun e => h ((ba_empty_iff d).1 e))
      rw [List.isEmpty_iff.1 hh] at h2
      simp at h2
def leafCellOk (c : Ce) : Prop := c.says ∧ c.key.size ≠ 0 ∧ c.rst.size ≤ 20 ∧ (c.st = 1 ∨ c.st = 2)
instance (c : Ce) : Decidable (leafCellOk c) := by unfold leafCellOk; infer_instance
def innerCellOk (c : Ce) (place : Nat) : Prop := c.st = 1 ∧ c.child ≠ 0 ∧ (c.key.size = 0 ↔ place = 0)
instance (c : Ce) (p : Nat) : Decidable (innerCellOk c p) := by unfold innerCellOk; infer_instance
set_option maxHeartbeats 1000000 in
theorem isleaf_any (c : Ce) (w : World) (hs : c.d.size ≤ maxLen) :
    Calls Try.prog 46 #[c.v] w fun e w' => e = .returned (.bool (decide (leafCellOk c))) ∧ Below w.heap.size w w' := by
  have ck := fun w => key_any c w hs
  have hrz := Nat.le_trans c.rst_size hs
  unfold maxLen at hrz
  clear hs
  have hO : decide (leafCellOk c) = (decide c.says && (decide (c.key.size ≠ 0) && (decide (c.rst.size ≤ 20) && decide (c.st = 1 ∨ c.st = 2)))) := by unfold leafCellOk; simp [Bool.decide_and]
  rw [hO]
  clear hO
  have hE := ba_empty5 c.key
  unfold Ce.v at *
  obtain ⟨st, d⟩ := c
  generalize Ce.key ⟨st, d⟩ = K at *
  generalize Ce.rst ⟨st, d⟩ = R at *
  generalize decide (Ce.says ⟨st, d⟩) = O at *
  dsimp only at ck hrz ⊢
  have hbk : Bk (w.alloc (.cells #[.int .i64 st, .string d] 23)) w.heap.size 23 #[.int .i64 st, .string d] := Bk.new _ _ _
  have HBK := Lib.hid hbk
  have CK := Lib.hid ck; clear ck hbk
  cases O
  · simp only [Bool.false_and]
    clear hE
    go_enter Try.func46, Try.ntmps46
    go_wp2_with fail
    refine (CK.out _).mono ?_
    rintro e w2 ⟨rfl, hb2⟩
    have B2 := Lib.hid (below_then ((Below.refl _ _).alloc (Nat.le_refl _) (.cells #[.int .i64 st, .string d] 23)) hb2 (by simp))
    clear hb2
    go_wp2
    go_ret
    exact ⟨rfl, B2.out⟩
  · by_cases hk : K.size = 0
    · rw [decide_eq_true hk] at hE
      rw [decide_eq_false (show ¬ K.size ≠ 0 by omega)]
      simp only [Bool.false_and, Bool.true_and]
      go_enter Try.func46, Try.ntmps46
      go_wp2_with fail
      refine (CK.out _).mono ?_
      rintro e w2 ⟨rfl, hb2⟩
      have B2 := Lib.hid (below_then ((Below.refl _ _).alloc (Nat.le_refl _) (.cells #[.int .i64 st, .string d] 23)) hb2 (by simp))
      clear hb2
      go_wp2
      go_ret
      exact ⟨rfl, B2.out⟩
    · rw [decide_eq_false hk] at hE
      rw [decide_eq_true (show K.size ≠ 0 from hk)]
      by_cases h2 : (R.size : Int) ≤ 20
      · rw [decide_eq_true (show R.size ≤ 20 by omega)]
        simp only [Bool.true_and]
        by_cases a1 : st = 1
        · rw [decide_eq_true (show st = 1 ∨ st = 2 from .inl a1)]
          subst a1
          go_enter Try.func46, Try.ntmps46
          go_wp2_with fail
          refine (CK.out _).mono ?_
          rintro e w2 ⟨rfl, hb2⟩
          have c0 := (HBK.out.kept hb2).cell 0
          simp only [List.getElem?_toArray, List.getElem?_cons_zero] at c0
          have B2 := Lib.hid (below_then ((Below.refl _ _).alloc (Nat.le_refl _) (.cells #[.int .i64 1, .string d] 23)) hb2 (by simp))
          clear hb2
          go_wp2
          go_ret
          exact ⟨rfl, B2.out⟩
        · have a1' : (st == 1) = false := by simp [a1]
          by_cases a2 : st = 2
          · rw [decide_eq_true (show st = 1 ∨ st = 2 from .inr a2)]
            subst a2
            go_enter Try.func46, Try.ntmps46
            go_wp2_with fail
            refine (CK.out _).mono ?_
            rintro e w2 ⟨rfl, hb2⟩
            have c0 := (HBK.out.kept hb2).cell 0
            simp only [List.getElem?_toArray, List.getElem?_cons_zero] at c0
            have B2 := Lib.hid (below_then ((Below.refl _ _).alloc (Nat.le_refl _) (.cells #[.int .i64 2, .string d] 23)) hb2 (by simp))
            clear hb2
            go_wp2
            go_ret
            exact ⟨rfl, B2.out⟩
          · have a2' : (st == 2) = false := by simp [a2]
            rw [decide_eq_false (show ¬ (st = 1 ∨ st = 2) by omega)]
            go_enter Try.func46, Try.ntmps46
            go_wp2_with fail
            refine (CK.out _).mono ?_
            rintro e w2 ⟨rfl, hb2⟩
            have c0 := (HBK.out.kept hb2).cell 0
            simp only [List.getElem?_toArray, List.getElem?_cons_zero] at c0
            have B2 := Lib.hid (below_then ((Below.refl _ _).alloc (Nat.le_refl _) (.cells #[.int .i64 st, .string d] 23)) hb2 (by simp))
            clear hb2
            go_wp2
            go_ret
            exact ⟨rfl, B2.out⟩
      · rw [decide_eq_false (show ¬ R.size ≤ 20 by omega)]
        simp only [Bool.false_and, Bool.true_and]
        go_enter Try.func46, Try.ntmps46
        go_wp2_with fail
        refine (CK.out _).mono ?_
        rintro e w2 ⟨rfl, hb2⟩
        have B2 := Lib.hid (below_then ((Below.refl _ _).alloc (Nat.le_refl _) (.cells #[.int .i64 st, .string d] 23)) hb2 (by simp))
        clear hb2
        go_wp2
        go_ret
        exact ⟨rfl, B2.out⟩
set_option maxHeartbeats 1000000 in
theorem isinner_any (c : Ce) (place : Nat) (w : World) (hs : c.d.size ≤ maxLen) (hp : place ≤ 100) :
    Calls Try.prog 47 #[c.v, .int .i64 place] w fun e w' => e = .returned (.bool (decide (innerCellOk c place))) ∧ Below w.heap.size w w' := by
  have cc := fun w => child_any c w hs
  have ck := fun w => keyof_any c w hs
  have hE := ba_empty5 c.key
  have hO : decide (innerCellOk c place) = (decide (c.st = 1) && (decide (c.child ≠ 0) && (decide (c.key.size = 0) == decide (place = 0)))) := by
    unfold innerCellOk
    by_cases h1 : c.st = 1 <;> by_cases h2 : c.child = 0 <;> by_cases h3 : c.key.size = 0 <;> by_cases h4 : place = 0 <;> simp [h1, h2, h3, h4]
  rw [hO]
  clear hO hs
  unfold Ce.v at *
  obtain ⟨st, d⟩ := c
  generalize Ce.key ⟨st, d⟩ = K at *
  generalize Ce.child ⟨st, d⟩ = C at *
  dsimp only at ck cc ⊢
  have hbk : Bk (w.alloc (.cells #[.int .i64 st, .string d] 23)) w.heap.size 23 #[.int .i64 st, .string d] := Bk.new _ _ _
  have HBK := Lib.hid hbk
  have CK := Lib.hid ck; have CC := Lib.hid cc; clear ck hbk cc
  by_cases h1 : st = 1
  · subst h1
    rw [decide_eq_true rfl]
    simp only [Bool.true_and]
    by_cases h2 : C = 0
    · subst h2
      clear hE
      go_enter Try.func47, Try.ntmps47
      go_wp2_with fail
      refine (CC.out _).mono ?_
      rintro e w2 ⟨rfl, hb2⟩
      have B2 := Lib.hid (below_then ((Below.refl _ _).alloc (Nat.le_refl _) (.cells #[.int .i64 1, .string d] 23)) hb2 (by simp))
      clear hb2
      go_wp2
      go_ret
      exact ⟨rfl, B2.out⟩
    · rw [decide_eq_true (show C ≠ 0 from h2)]
      simp only [Bool.true_and]
      have h2' : ((C : Int) != 0) = true := by simp; omega
      have hP : ((place : Int) == 0) = decide (place = 0) := by by_cases h : place = 0 <;> simp [h]
      clear h2
      generalize decide (place = 0) = Z at *
      generalize decide (K.size = 0) = Y at *
      go_enter Try.func47, Try.ntmps47
      go_wp2_with fail
      refine (CC.out _).mono ?_
      rintro e w2 ⟨rfl, hb2⟩
      have k2 := HBK.out.kept hb2
      have K2 := Lib.hid k2
      have c0 := k2.cell 0; have c1 := k2.cell 1
      simp only [List.getElem?_toArray, List.getElem?_cons_zero, List.getElem?_cons_succ] at c0 c1
      have B2 := Lib.hid (below_then ((Below.refl _ _).alloc (Nat.le_refl _) (.cells #[.int .i64 1, .string d] 23)) hb2 (by simp))
      clear hb2 k2
      go_wp2_with fail
      refine (CK.out _).mono ?_
      rintro e w3 ⟨rfl, hb3⟩
      have B3 := Lib.hid (below_then B2.out hb3 B2.out.size)
      clear hb3 B2
      cases Y <;> cases Z
      all_goals
        go_wp2
        go_ret
        exact ⟨rfl, B3.out⟩
  · rw [decide_eq_false h1]
    simp only [Bool.false_and]
    have h1' : (st == 1) = false := by simp [h1]
    clear hE
    go_enter Try.func47, Try.ntmps47
    go_wp2
    go_ret
    exact ⟨rfl, (Below.refl _ _).alloc (Nat.le_refl _) _⟩
end Go.Proofs.Ytedoechjjcbeeaa
