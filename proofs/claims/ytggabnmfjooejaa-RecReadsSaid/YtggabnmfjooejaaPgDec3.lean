/- Decode, whatever the bytes. -/
import Derived.Test.YtggabnmfjooejaaPgDec2
set_option linter.unusedVariables false
set_option linter.unusedSimpArgs false
namespace Go.Proofs.Ytggabnmfjooejaa
open Go.RowKit

set_option maxHeartbeats 4000000 in
theorem decode_short (s : ByteArray) (w : World) (h : s.size ≠ 224) :
    Calls Try.prog 32 #[.string s] w fun e w' => e = .returned (.tuple #[Pg.zero.v, .int .i64 40]) ∧ Below w.heap.size w w' := by
  have hn : ((s.size : Int) == 224) = false := by simp; omega
  go_enter Try.func32, Try.ntmps32
  go_wp2
  go_step3
  go_wp2
  rw [Exit.noGoto_ret]
  refine bodyPost_ret (dec_results _ _ w.heap.size Pg.zero.cs (Bk.new w _ _) rfl rfl) rfl ?_
  exact ⟨rfl, (Below.refl _ _).alloc (Nat.le_refl _) _⟩
theorem decode_any (s : ByteArray) (w : World) :
    Calls Try.prog 32 #[.string s] w fun e w' => e = .returned (.tuple #[(Pg.dec s).v, .int .i64 (decErr s)]) ∧ Below w.heap.size w w' := by
  by_cases h : s.size = 224
  · exact decode_long s w h
  · have hd := dec_bad s fun hg => h hg.1
    rw [hd.1, hd.2]
    exact decode_short s w h
end Go.Proofs.Ytggabnmfjooejaa
