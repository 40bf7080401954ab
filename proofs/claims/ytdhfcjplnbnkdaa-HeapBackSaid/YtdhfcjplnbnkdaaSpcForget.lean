/- A store forgotten. -/
import Derived.Test.YtdhfcjplnbnkdaaSpcMake
set_option linter.unusedVariables false
set_option linter.unusedSimpArgs false
namespace Go.Proofs.Ytdhfcjplnbnkdaa
open Go.RowKit

/-- The map on which the pages of a store below i are given back. -/
def fgt (pg : Nat → Pg) (s : Int) (m : Pg) : Nat → Pg
  | 0 => m
  | i + 1 => if 2 ≤ i ∧ ownB (fgt pg s m i) i = true ∧ (pg i).s = s then mrk (fgt pg s m i) i false else fgt pg s m i
theorem fgt_ok {m : Pg} {n : Nat} (h : MapOk m n) (pg : Nat → Pg) (s : Int) : ∀ i, MapOk (fgt pg s m i) n
  | 0 => h
  | i + 1 => by
    unfold fgt
    split
    · exact (fgt_ok h pg s i).mrk i false
    · exact fgt_ok h pg s i
theorem fgt_two (pg : Nat → Pg) (s : Int) (m : Pg) : fgt pg s m 2 = m := by
  unfold fgt fgt fgt
  simp
def ForgetPost (w : World) (B g b gs r N M n : Nat) (und pg : Nat → Pg) (s : Int) (e : Ending) (w' : World) : Prop :=
  (¬ thereP (pg 0) s ∧ e = .returned (.int .i64 1) ∧ Below w.heap.size w w') ∨
  (thereP (pg 0) s ∧ e = .returned (.int .i64 0) ∧ SV w' B g b gs r N (M + 2) und (upd (upd pg 1 (fgt pg s (pg 1) n)) 0 (putC (pg 0) (s - 1).toNat ⟨0, ⟨#[]⟩⟩)) ∧ w.grownBy w' (some b))
end Go.Proofs.Ytdhfcjplnbnkdaa
