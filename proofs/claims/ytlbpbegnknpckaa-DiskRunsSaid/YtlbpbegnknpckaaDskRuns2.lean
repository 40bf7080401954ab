/- DiskRuns: whatever the number of sectors. -/
import Derived.Test.YtlbpbegnknpckaaDskRuns
set_option linter.unusedVariables false
set_option linter.unusedSimpArgs false
namespace Go.Proofs.Ytlbpbegnknpckaa
open Go.RowKit

set_option maxRecDepth 100000 in
set_option maxHeartbeats 4000000 in
theorem runs_bad (n : Int) (v : Value) (w : World) (h : n < 1 ∨ 16384 < n) :
    Calls Try.prog 3 #[.int .i64 n, v] w fun e w' => e = .returned (.bool true) ∧ Below w.heap.size w w' := by
  have CA := Lib.hid (awake_any w)
  have CN := Lib.hid (fun w => new_bad n w h)
  rcases h with h | h
  all_goals
    go_enter Try.func3, Try.ntmps3
    go_wp2_with fail
    refine CA.out.mono ?_
    rintro e w1 ⟨rfl, hb1⟩
    have HB := Lib.hid hb1
    clear hb1
    go_wp2_with fail
    refine (CN.out w1).mono ?_
    rintro e w2 ⟨rfl, hw⟩
    subst w2
    go_wp2
    go_ret
    exact ⟨rfl, HB.out⟩

theorem walk_DiskRuns (n : Int) (v : Value) (q : Slq) (w : World) (h0 : -9223372036854775808 ≤ n) (h1 : n ≤ 9223372036854775807) (hq : IsCalls w v q) (hs : q.cap * 56 ≤ 140737488351232) :
    Calls Try.prog 3 #[.int .i64 n, v] w fun e w' => e = .returned (.bool true) ∧ Below w.heap.size w w' := by
  by_cases hn : n < 1 ∨ 16384 < n
  · exact runs_bad n v w hn
  · obtain ⟨k, rfl⟩ := Int.eq_ofNat_of_zero_le (show 0 ≤ n by omega)
    obtain ⟨hl, c, hc⟩ := hq
    rw [hl.val]
    have hle := hl.le
    refine runs_core k q.len q.cap q.a c w (by omega) (by omega) (by omega) ?_ (fun i hi => (hc i hi).dz) (fun i hi => (hc i hi).kp) (fun i hi => ⟨(hc i hi).s0, (hc i hi).s1⟩)
    intro hp
    obtain ⟨b, off, e, hb, hx⟩ := hl.at_ hp
    refine ⟨b, off, e, hb, fun i hi => ⟨?_, ?_, ?_, ?_⟩⟩
    · have := hx i 0 hi (by omega); rw [(hc i hi).c0] at this; exact this
    · have := hx i 1 hi (by omega); rw [(hc i hi).c1] at this; exact this
    · have := hx i 2 hi (by omega); rw [(hc i hi).c2] at this; exact this
    · have := hx i 3 hi (by omega); rw [(hc i hi).c3] at this; exact this
end Go.Proofs.Ytlbpbegnknpckaa
