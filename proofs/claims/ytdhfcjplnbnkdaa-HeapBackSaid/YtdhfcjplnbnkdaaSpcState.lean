/- A store's cell: live, or a ghost. -/
import Derived.Test.YtdhfcjplnbnkdaaSpcDir
set_option linter.unusedVariables false
set_option linter.unusedSimpArgs false
namespace Go.Proofs.Ytdhfcjplnbnkdaa
open Go.RowKit

def setSt (p : Pg) (j : Nat) (st : Int) : Pg := putC p j ⟨st, (p.c j).d⟩
theorem setSt_ok {p : Pg} (h : p.ok) (j : Nat) (hs : (p.c j).st ≠ 0) (hj : j < 6) {st : Int} (h1 : st = 1 ∨ st = 2) : (setSt p j st).ok := by
  refine ⟨h.1, fun i hi => ?_⟩
  show (if i = j then (⟨st, (p.c j).d⟩ : Ce) else p.c i).ok
  by_cases e : i = j
  · rw [if_pos e]
    rcases h.2 j hj with ⟨a, _⟩ | ⟨_, b⟩
    · exact absurd a hs
    · exact .inr ⟨h1, b⟩
  · rw [if_neg e]; exact h.2 i hi
theorem stRow (p : Pg) (j : Nat) (hj : j < 6) (st : Int) {w : World} {G : Nat} (hk : Bk w G 40 p.cs) : Bk (w.setCells G (4 + j * 2) [.int .i64 st]) G 40 (setSt p j st).cs := by
  have := Bk.lays [.int .i64 st] w p.cs (4 + j * 2) hk
  have e : lay p.cs (4 + j * 2) [.int .i64 st] = (setSt p j st).cs := by
    unfold setSt putC Pg.cs
    rcases six hj with h | h | h | h | h | h <;> subst h <;> rfl
  rw [e] at this
  exact this
theorem st_there {w : World} {G : Nat} {p : Pg} (hk : Bk w G 40 p.cs) (j : Nat) (hj : j < 6) : w.there G (4 + j * 2) 1 := fun q hq => cell_there hk j hj q (by omega)
def mayState (p : Pg) (s st : Int) : Prop := thereP p s ∧ (st = 1 ∨ st = 2)
def StatePost (w : World) (B g b gs r N M : Nat) (und pg : Nat → Pg) (s st : Int) (e : Ending) (w' : World) : Prop :=
  (¬ mayState (pg 0) s st ∧ e = .returned (.int .i64 1) ∧ Below w.heap.size w w') ∨
  (mayState (pg 0) s st ∧ e = .returned (.int .i64 0) ∧ SV w' B g b gs r N (M + 1) und (upd pg 0 (setSt (pg 0) (s - 1).toNat st)) ∧ w.grownBy w' (some b))
end Go.Proofs.Ytdhfcjplnbnkdaa
