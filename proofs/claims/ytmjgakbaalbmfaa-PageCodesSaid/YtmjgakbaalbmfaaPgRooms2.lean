/- PageRooms, for a page that came in. -/
import Derived.Test.YtmjgakbaalbmfaaPgRooms
import Derived.Test.YtmjgakbaalbmfaaPgAwake
set_option linter.unusedVariables false
set_option linter.unusedSimpArgs false
namespace Go.Proofs.Ytmjgakbaalbmfaa
open Go.RowKit

theorem walk_PageRooms (v : Value) (p : Pg) (w : World) (h : IsPage v p) :
    Calls Try.prog 7 #[v] w fun e w' => e = .returned (.bool true) ∧ Below w.heap.size w w' := by
  rw [h.val]
  exact rooms_core p w awake_any
end Go.Proofs.Ytmjgakbaalbmfaa
