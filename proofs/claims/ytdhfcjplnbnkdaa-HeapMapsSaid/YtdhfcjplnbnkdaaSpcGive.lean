/- A page given back; those that are used. -/
import Derived.Test.YtdhfcjplnbnkdaaSpcTake
set_option linter.unusedVariables false
set_option linter.unusedSimpArgs false
namespace Go.Proofs.Ytdhfcjplnbnkdaa
open Go.RowKit

/-- May this page be given back? -/
def mayGive (m : Pg) (n : Nat) (id : Int) : Prop := 2 ≤ id ∧ id < n ∧ ownB m id.toNat = true
def GivePost (w : World) (B g b gs r N M n : Nat) (und pg : Nat → Pg) (id : Int) (e : Ending) (w' : World) : Prop :=
  (¬ mayGive (pg 1) n id ∧ e = .returned (.int .i64 1) ∧ Below w.heap.size w w') ∨
  (mayGive (pg 1) n id ∧ e = .returned (.int .i64 0) ∧ SV w' B g b gs r N (M + 1) und (upd pg 1 (mrk (pg 1) id.toNat false)) ∧ w.grownBy w' (some b))
def usedL (m : Pg) (n : Nat) : List Int := ((List.range n).filter (ownB m)).map fun i : Nat => (i : Int)
def IntsOwn (w : World) (base : Nat) (v : Value) (l : List Int) : Prop := w.ownsRow base 3 1 v l.length (l.map (Value.int .i64))
def UsedPost (w : World) (m : Pg) (n : Nat) (e : Ending) (w' : World) : Prop := ∃ v, e = .returned (.tuple #[v, .int .i64 n, .int .i64 0]) ∧ IntsOwn w' w.heap.size v (usedL m n) ∧ Below w.heap.size w w'
theorem usedL_succ (m : Pg) (j : Nat) : usedL m (j + 1) = if ownB m j = true then usedL m j ++ [(j : Int)] else usedL m j := by
  unfold usedL
  rw [List.range_succ, List.filter_append, List.map_append]
  by_cases h : ownB m j = true
  · rw [if_pos h]; simp [h]
  · rw [if_neg h]; simp [h]
theorem usedL_len (m : Pg) (j : Nat) : (usedL m j).length ≤ j := by
  unfold usedL
  rw [List.length_map]
  exact Nat.le_trans (List.length_filter_le _ _) (by simp)
end Go.Proofs.Ytdhfcjplnbnkdaa
