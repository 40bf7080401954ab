/- What PlanAbove's loop asks of each need in its turn, as a plain run; every plan passes. No program in sight but the plan's lists. -/
import Derived.Test.YtokghbppdmlfkaaDoorPlnNeeds
set_option linter.unusedVariables false
set_option linter.unusedSimpArgs false
namespace Go.Proofs.YtokghbppdmlfkaaDoor
open Go.RowKit

/-- One need: the volume's and the store's modes behind it, if it is asked as it should be. -/
def stp (st : Int) (s : Int × Int) (d : Nd) : Option (Int × Int) :=
  if d.st = 0 ∧ d.it = ⟨#[]⟩ then some (Md.join s.1 d.m, if st = 0 then Md.join s.1 d.m else s.2)
  else if d.it = ⟨#[]⟩ ∧ d.st = st then (if Md.cov s.1 (Md.abv d.m) = true then some (s.1, Md.join s.2 d.m) else none)
  else if d.st = st then (if Md.cov s.1 (Md.abv d.m) = true ∧ Md.cov s.2 (Md.abv d.m) = true then some s else none)
  else none
def runs (st : Int) : Int × Int → List Nd → Prop
  | _, [] => True
  | s, d :: r => 0 < d.m ∧ d.m ≤ 6 ∧ ∃ s', stp st s d = some s' ∧ runs st s' r
theorem cov_join3 : ∀ v : Fin 7, Md.cov (v.val : Nat) 1 = true → Md.cov (Md.join (v.val : Nat) 3) 1 = true ∧ ∃ u : Fin 7, Md.join (v.val : Nat) 3 = ((u.val : Nat) : Int) := by decide +kernel
theorem cov_join6 : ∀ v : Fin 7, Md.cov (v.val : Nat) 2 = true → Md.cov (Md.join (v.val : Nat) 6) 2 = true ∧ ∃ u : Fin 7, Md.join (v.val : Nat) 6 = ((u.val : Nat) : Int) := by decide +kernel
theorem cov_join {m : Int} (hm : m = 3 ∨ m = 6) {v : Int} (h : ∃ u : Fin 7, v = ((u.val : Nat) : Int)) (hc : Md.cov v (Md.abv m) = true) :
    Md.cov (Md.join v m) (Md.abv m) = true ∧ ∃ u : Fin 7, Md.join v m = ((u.val : Nat) : Int) := by
  obtain ⟨u, rfl⟩ := h
  rcases hm with rfl | rfl
  · rw [show Md.abv 3 = 1 by decide +kernel] at *; exact cov_join3 u hc
  · rw [show Md.abv 6 = 2 by decide +kernel] at *; exact cov_join6 u hc
theorem runs_items (st : Int) {m : Int} (hm : m = 3 ∨ m = 6) : ∀ (l : List ByteArray) (v t : Int), (∃ u : Fin 7, v = ((u.val : Nat) : Int)) → (∃ u : Fin 7, t = ((u.val : Nat) : Int)) → Md.cov v (Md.abv m) = true → Md.cov t (Md.abv m) = true →
    runs st (v, t) (l.map fun s => ⟨st, s, m⟩)
  | [], _, _, _, _, _, _ => trivial
  | s :: l, v, t, hv, ht, cv, ct => by
    obtain ⟨jv, jv'⟩ := cov_join hm hv cv
    obtain ⟨jt, jt'⟩ := cov_join hm ht ct
    refine ⟨by show 0 < m; omega, by show m ≤ 6; omega, ?_⟩
    by_cases hs : s = ⟨#[]⟩
    · by_cases h0 : st = 0
      · exact ⟨(Md.join v m, Md.join v m), by simp [stp, hs, h0], runs_items st hm l _ _ jv' jv' jv jv⟩
      · exact ⟨(v, Md.join t m), by simp [stp, hs, h0, cv], runs_items st hm l _ _ hv jt' cv jt⟩
    · exact ⟨(v, t), by simp [stp, hs, cv, ct], runs_items st hm l _ _ hv ht cv ct⟩
theorem runs_above (st : Int) {a : Int} (ha : a = 1 ∨ a = 2) {r : List Nd} (h : runs st (a, a) r) : runs st (0, 0) (nd0 a :: ⟨st, ⟨#[]⟩, a⟩ :: r) := by
  have j0 : Md.join 0 a = a := by rcases ha with rfl | rfl <;> decide +kernel
  have ja : Md.join a a = a := by rcases ha with rfl | rfl <;> decide +kernel
  have ca : Md.cov a (Md.abv a) = true := by rcases ha with rfl | rfl <;> decide +kernel
  refine ⟨by show 0 < a; omega, by show a ≤ 6; omega, (a, if st = 0 then a else 0), by simp [stp, nd0, j0], by show 0 < a; omega, by show a ≤ 6; omega, (a, a), ?_, h⟩
  by_cases h0 : st = 0
  · simp [stp, h0, ja]
  · simp [stp, h0, j0, ca]
theorem runs_above0 (st : Int) {m : Int} (hm : m = 3 ∨ m = 6) : runs st (0, 0) (aboveL st m) := by
  rcases hm with rfl | rfl
  · exact runs_above st (a := Md.abv 3) (.inl (by decide +kernel)) trivial
  · exact runs_above st (a := Md.abv 6) (.inr (by decide +kernel)) trivial
theorem runs_itemsL (st : Int) {m : Int} (hm : m = 3 ∨ m = 6) (l : List ByteArray) : runs st (0, 0) (itemsL st m l) := by
  have e : Md.abv m = 1 ∨ Md.abv m = 2 := by rcases hm with rfl | rfl <;> decide +kernel
  have u : ∃ u : Fin 7, Md.abv m = ((u.val : Nat) : Int) := by rcases hm with rfl | rfl <;> decide +kernel
  have c : Md.cov (Md.abv m) (Md.abv m) = true := by rcases hm with rfl | rfl <;> decide +kernel
  exact runs_above st e (runs_items st hm l _ _ u u c c)
theorem runs_needs (q : Opn) (nx : ByteArray) (ks : List ByteArray) (err : Int) : runs q.st (0, 0) (needsL q nx ks err) := by
  unfold needsL
  split
  · exact ⟨(show (0 : Int) < 6 by decide), (show (6 : Int) ≤ 6 by decide), (6, if q.st = 0 then 6 else 0), by simp [stp, nd0, show Md.join 0 6 = 6 by decide +kernel], trivial⟩
  split
  · refine ⟨(show (0 : Int) < 2 by decide), (show (2 : Int) ≤ 6 by decide), (2, if q.st = 0 then 2 else 0), by simp [stp, nd0, show Md.join 0 2 = 2 by decide +kernel], ?_⟩
    by_cases h0 : q.st = 0
    · exact ⟨(show (0 : Int) < 6 by decide), (show (6 : Int) ≤ 6 by decide), (6, 6), by simp [stp, h0, show Md.join 2 6 = 6 by decide +kernel], trivial⟩
    · exact ⟨(show (0 : Int) < 6 by decide), (show (6 : Int) ≤ 6 by decide), (2, 6), by simp [stp, h0, show Md.join 0 6 = 6 by decide +kernel, show Md.cov 2 (Md.abv 6) = true by decide +kernel], trivial⟩
  split
  · refine ⟨(show (0 : Int) < 1 by decide), (show (1 : Int) ≤ 6 by decide), (1, if q.st = 0 then 1 else 0), by simp [stp, nd0, show Md.join 0 1 = 1 by decide +kernel], ?_⟩
    by_cases h0 : q.st = 0
    · exact ⟨(show (0 : Int) < 3 by decide), (show (3 : Int) ≤ 6 by decide), (3, 3), by simp [stp, h0, show Md.join 1 3 = 3 by decide +kernel], trivial⟩
    · exact ⟨(show (0 : Int) < 3 by decide), (show (3 : Int) ≤ 6 by decide), (1, 3), by simp [stp, h0, show Md.join 0 3 = 3 by decide +kernel, show Md.cov 1 (Md.abv 3) = true by decide +kernel], trivial⟩
  split
  · exact runs_above0 _ (.inr rfl)
  split
  · exact runs_itemsL _ (.inl rfl) _
  split
  · exact runs_itemsL _ (.inr rfl) _
  split
  · unfold keyL
    have hm : ((if q.k = 14 then 3 else 6 : Int) = 3 ∨ (if q.k = 14 then 3 else 6 : Int) = 6) := by split <;> simp
    dsimp only
    split
    · exact runs_above0 _ hm
    split
    · exact runs_itemsL _ hm _
    split
    · exact runs_itemsL _ (.inl rfl) _
    · exact runs_itemsL _ hm _
  split
  · unfold rangeL
    split
    · exact runs_above0 _ (.inl rfl)
    · exact runs_itemsL _ (.inl rfl) _
  · trivial
end Go.Proofs.YtokghbppdmlfkaaDoor
