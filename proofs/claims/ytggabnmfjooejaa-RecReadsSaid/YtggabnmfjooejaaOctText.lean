/- The walks of octet.Text and of the document's own Text. -/
import Derived.Test.YtggabnmfjooejaaProg
import Derived.Test.YtggabnmfjooejaaOctPlain
import Derived.WalkKit
import Derived.WalkSpells
import Derived.WalkLawsBesides
import Derived.Lib.Hide
set_option linter.unusedVariables false
set_option linter.unusedSimpArgs false
namespace Go.Proofs.Ytggabnmfjooejaa
open Go.RowKit

set_option maxHeartbeats 400000 in
theorem text_fits (s : ByteArray) (w : World) (h : s.size ≤ 255) :
    Calls Try.prog 53 #[.string s] w fun e w' => e = .returned (.tuple #[.string (Oct.text s), .int .i64 0]) ∧ Below w.heap.size w w' := by
  have h' : ¬ (255 < s.size) := by omega
  have hst := fun wx => Oct.run_string1 (P := Try.prog) wx 86 9 5 s.size Try.underlying86 Try.underlying5 Try.underlying9
  go_enter Try.func53, Try.ntmps53
  go_wp2
  go_ret2
  exact ⟨rfl, (Below.refl _ _).alloc (Nat.le_refl _) _⟩
set_option maxHeartbeats 400000 in
theorem text_long (s : ByteArray) (w : World) (h : 255 < s.size) :
    Calls Try.prog 53 #[.string s] w fun e w' => e = .returned (.tuple #[.string ⟨#[]⟩, .int .i64 2]) ∧ Below w.heap.size w w' := by
  go_enter Try.func53, Try.ntmps53
  go_wp2
  go_ret2
  exact ⟨rfl, Below.refl _ _⟩

-- the document's own
set_option maxHeartbeats 400000 in
theorem rtext_fits (s : ByteArray) (w : World) (h : s.size ≤ 255) :
    Calls Try.prog 45 #[.string s] w fun e w' => e = .returned (.tuple #[.string (Oct.text s), .bool true]) ∧ Below w.heap.size w w' := by
  have h' : ¬ (255 < s.size) := by omega
  have hst := fun wx => Oct.run_string1 (P := Try.prog) wx 86 9 5 s.size Try.underlying86 Try.underlying5 Try.underlying9
  go_enter Try.func45, Try.ntmps45
  go_wp2
  go_ret2
  exact ⟨rfl, (Below.refl _ _).alloc (Nat.le_refl _) _⟩
set_option maxHeartbeats 400000 in
theorem rtext_long (s : ByteArray) (w : World) (h : 255 < s.size) :
    Calls Try.prog 45 #[.string s] w fun e w' => e = .returned (.tuple #[.string ⟨#[]⟩, .bool false]) ∧ Below w.heap.size w w' := by
  go_enter Try.func45, Try.ntmps45
  go_wp2
  go_ret2
  exact ⟨rfl, Below.refl _ _⟩

end Go.Proofs.Ytggabnmfjooejaa
