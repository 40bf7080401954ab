/- The walk of the document's own Num: it appends byte by byte. -/
import Derived.Test.YtelbioooggnbiaaGreatProg
import Derived.Test.YtelbioooggnbiaaGreatOctPlain
import Derived.WalkKit
import Derived.WalkSpells
import Derived.WalkLawsBesides
import Derived.Lib.Hide
set_option linter.unusedVariables false
set_option linter.unusedSimpArgs false
namespace Go.Proofs.YtelbioooggnbiaaGreat
open Go.RowKit

theorem Tryz.rinfo5 : (Tryz.prog.info? 5).map (fun i => (i.zero, i.size, i.bytes)) = some (some (.int .u8 0), 1, 1) := by kernel_rfl


theorem rnum_step (base : Nat) {w1 : World} {v : Value} {n k : Nat} {t : TypeId} {c : Int} (hc : c = ((Oct.rest n k % 256 : Nat) : Int)) (h : w1.ownsRow base t 1 v (k + 1) (Oct.vals n k ++ [.int .u8 c])) :
    w1.ownsRow base t 1 v (k + 1) (Oct.vals n (k + 1)) := by
  subst hc
  rw [Oct.vals_succ]
  exact h

end Go.Proofs.YtelbioooggnbiaaGreat
