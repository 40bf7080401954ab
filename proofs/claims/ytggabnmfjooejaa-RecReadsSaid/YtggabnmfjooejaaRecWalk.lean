/- The walks of package logrec: isNumber, isPlace, isPage, isUndo, number, text. -/
import Derived.Test.YtggabnmfjooejaaRecPlain
import Derived.WalkSpells
import Derived.WalkLawsBesides
set_option linter.unusedVariables false
set_option linter.unusedSimpArgs false
namespace Go.Proofs.Ytggabnmfjooejaa
open Go.RowKit

set_option maxHeartbeats 400000 in
theorem isNumber_any (n : Int) (w : World) :
    Calls Try.prog 22 #[.int .i64 n] w fun e w' => e = .returned (.bool (decide (isNum n))) ∧ w' = w := by
  by_cases h : isNum n
  · rw [decide_eq_true h]
    obtain ⟨h1, h2⟩ := h
    go_enter Try.func22, Try.ntmps22
    go_wp2
    go_ret
    exact ⟨rfl, rfl⟩
  · rw [decide_eq_false h]
    rcases (show n < 0 ∨ (0 ≤ n ∧ ¬ n ≤ 2147483647) by unfold isNum at h; omega) with h1 | ⟨h1, h2⟩
    all_goals
      clear h
      go_enter Try.func22, Try.ntmps22
      go_wp2
      go_ret
      first
        | exact ⟨rfl, rfl⟩
        | exact ⟨congrArg (fun b => Ending.returned (Value.bool b)) (decide_eq_false h2), rfl⟩
set_option maxHeartbeats 400000 in
theorem isPlace_any (n : Int) (w : World) :
    Calls Try.prog 23 #[.int .i64 n] w fun e w' => e = .returned (.bool (decide (isPl n))) ∧ w' = w := by
  by_cases h : isPl n
  · rw [decide_eq_true h]
    obtain ⟨h1, h2⟩ := h
    go_enter Try.func23, Try.ntmps23
    go_wp2
    go_ret
    exact ⟨rfl, rfl⟩
  · rw [decide_eq_false h]
    rcases (show n < 0 ∨ (0 ≤ n ∧ ¬ n ≤ 1099511627776) by unfold isPl at h; omega) with h1 | ⟨h1, h2⟩
    all_goals
      clear h
      go_enter Try.func23, Try.ntmps23
      go_wp2
      go_ret
      first
        | exact ⟨rfl, rfl⟩
        | exact ⟨congrArg (fun b => Ending.returned (Value.bool b)) (decide_eq_false h2), rfl⟩
set_option maxHeartbeats 400000 in
theorem isPage_any (n : Int) (w : World) :
    Calls Try.prog 25 #[.int .i64 n] w fun e w' => e = .returned (.bool (decide (isPgn n))) ∧ w' = w := by
  by_cases h : isPgn n
  · rw [decide_eq_true h]
    obtain ⟨h1, h2⟩ := h
    go_enter Try.func25, Try.ntmps25
    go_wp2
    go_ret
    exact ⟨rfl, rfl⟩
  · rw [decide_eq_false h]
    rcases (show n < 0 ∨ (0 ≤ n ∧ ¬ n < 1024) by unfold isPgn at h; omega) with h1 | ⟨h1, h2⟩
    all_goals
      clear h
      go_enter Try.func25, Try.ntmps25
      go_wp2
      go_ret
      first
        | exact ⟨rfl, rfl⟩
        | exact ⟨congrArg (fun b => Ending.returned (Value.bool b)) (decide_eq_false h2), rfl⟩

theorem lnumber_any (n : Int) (width : Nat) (w : World) (h1 : 1 ≤ width) (h2 : width ≤ 8) (h0 : 0 ≤ n) (hn : n ≤ 9223372036854775807) (hz : n.toNat < 256 ^ width) :
    Calls Try.prog 16 #[.int .i64 n, .int .i64 width] w fun e w' => e = .returned (.string (Oct.str n.toNat width)) ∧ Below w.heap.size w w' := by
  obtain ⟨m, rfl⟩ := Int.eq_ofNat_of_zero_le h0
  rw [Int.toNat_natCast] at hz ⊢
  have c := num_fits m width w h1 h2 (by omega) (rest_small m width hz)
  have C := Lib.hid c
  clear c hz
  go_enter Try.func16, Try.ntmps16
  go_wp2_with fail
  refine C.out.mono ?_
  rintro e w1 ⟨rfl, hw⟩
  subst w1
  clear C
  go_wp2
  go_ret
  exact ⟨rfl, (Below.refl _ _).alloc (Nat.le_refl _) _⟩
theorem lnum1 (n : Int) (w : World) (h0 : 0 ≤ n) (h : n < 256) :
    Calls Try.prog 16 #[.int .i64 n, .int .i64 1] w fun e w' => e = .returned (.string (Oct.str n.toNat 1)) ∧ Below w.heap.size w w' :=
  lnumber_any n 1 w (by omega) (by omega) h0 (by omega) (by omega)
theorem lnum4 (n : Int) (w : World) (h0 : 0 ≤ n) (h : n < 4294967296) :
    Calls Try.prog 16 #[.int .i64 n, .int .i64 4] w fun e w' => e = .returned (.string (Oct.str n.toNat 4)) ∧ Below w.heap.size w w' :=
  lnumber_any n 4 w (by omega) (by omega) h0 (by omega) (by omega)
theorem lnum8 (n : Int) (w : World) (h0 : 0 ≤ n) (h : n ≤ 9223372036854775807) :
    Calls Try.prog 16 #[.int .i64 n, .int .i64 8] w fun e w' => e = .returned (.string (Oct.str n.toNat 8)) ∧ Below w.heap.size w w' :=
  lnumber_any n 8 w (by omega) (by omega) h0 h (by rw [show (256 : Nat) ^ 8 = 18446744073709551616 by decide]; omega)
theorem ltext_any (s : ByteArray) (w : World) (h : s.size ≤ 255) :
    Calls Try.prog 41 #[.string s] w fun e w' => e = .returned (.string (Oct.text s)) ∧ Below w.heap.size w w' := by
  have C := Lib.hid (text_fits s w h)
  go_enter Try.func41, Try.ntmps41
  go_wp2_with fail
  refine C.out.mono ?_
  rintro e w1 ⟨rfl, hb⟩
  have HB := Lib.hid hb; clear hb
  go_wp2
  go_ret
  exact ⟨rfl, HB.out⟩
end Go.Proofs.Ytggabnmfjooejaa
