/- The walks of awake, OctetFits, OctetOrder and OctetNums, over the contracts of what they call. -/
import Derived.Test.YtfhdafpcppdjnaaOctNum
import Derived.Test.YtfhdafpcppdjnaaOctText
import Derived.Test.YtfhdafpcppdjnaaOctVal
import Derived.Test.YtfhdafpcppdjnaaOctRNum
set_option linter.unusedVariables false
set_option linter.unusedSimpArgs false
namespace Go.Proofs.Ytfhdafpcppdjnaa
open Go.RowKit

theorem str_258 : Oct.str 258 2 = ⟨#[2, 1]⟩ := by decide +kernel
theorem text_ab : Oct.text ⟨#[97, 98]⟩ = ⟨#[2, 97, 98]⟩ := by decide +kernel

set_option maxHeartbeats 400000 in
theorem awake_any (w : World) :
    Calls Try.prog 9 #[] w fun e w' => e = .returned (.bool true) ∧ Below w.heap.size w w' := by
  go_enter Try.func9, Try.ntmps9
  go_wp2_with fail
  refine (num_fits' 258 2 _ (by omega) (by omega) (by omega) (by omega) (by decide)).mono ?_
  rintro e w1 ⟨rfl, hb1⟩
  simp only [show Oct.str (258 : Int).toNat (2 : Int).toNat = ⟨#[2, 1]⟩ from str_258]
  go_wp2_with fail
  refine (text_fits _ _ (by decide)).mono ?_
  rintro e w2 ⟨rfl, hb2⟩
  simp only [text_ab]
  go_wp2
  go_ret
  exact ⟨rfl, hb1.trans (hb2.mono hb1.size)⟩

/-- One shape for a number in bytes, whether it fits or not. -/
theorem nums_num (n width : Int) (h0 : 0 ≤ n) (hn : n ≤ 18446744073709551615) : ∃ (ok : Bool) (x y : ByteArray),
    (∀ w, Calls Try.prog 10 #[.int .u64 n, .int .i64 width] w fun e w' => e = .returned (.tuple #[.string x, .int .i64 (if ok then 0 else 1)]) ∧ Below w.heap.size w w') ∧
    (∀ w, Calls Try.prog 11 #[.int .u64 n, .int .i64 width] w fun e w' => e = .returned (.tuple #[.string y, .bool ok]) ∧ Below w.heap.size w w') ∧
    (ok = true → y = x) ∧ (ok = false → x = ⟨#[]⟩) := by
  by_cases hb : width < 1 ∨ 8 < width
  · exact ⟨false, ⟨#[]⟩, ⟨#[]⟩, fun w => num_bad' n width w hb, fun w => rnum_bad n width w hb, by simp, by simp⟩
  · obtain ⟨a, rfl⟩ := Int.eq_ofNat_of_zero_le h0
    obtain ⟨b, rfl⟩ := Int.eq_ofNat_of_zero_le (show 0 ≤ width by omega)
    by_cases hz : Oct.rest a b = 0
    · refine ⟨true, Oct.str a b, Oct.str a b, fun w => num_fits' a b w (by omega) (by omega) (by omega) (by omega) hz, fun w => ?_, by simp, by simp⟩
      have := rnum_good a b w (by omega) (by omega) (by omega)
      rw [show (Oct.rest a b == 0) = true by simp [hz]] at this
      exact this
    · refine ⟨false, ⟨#[]⟩, Oct.str a b, fun w => num_over' a b w (by omega) (by omega) (by omega) (by omega) hz, fun w => ?_, by simp, by simp⟩
      have := rnum_good a b w (by omega) (by omega) (by omega)
      rw [show (Oct.rest a b == 0) = false by simp [hz]] at this
      exact this
theorem nums_val (s : ByteArray) : ∃ (ok : Bool) (x : Int),
    (∀ w, Calls Try.prog 12 #[.string s] w fun e w' => e = .returned (.tuple #[.int .u64 x, .int .i64 (if ok then 0 else 1)]) ∧ Below w.heap.size w w') ∧
    (∀ w, Calls Try.prog 13 #[.string s] w fun e w' => e = .returned (.tuple #[.int .u64 x, .bool ok]) ∧ Below w.heap.size w w') := by
  by_cases hb : s.size < 1 ∨ 8 < s.size
  · exact ⟨false, 0, fun w => val_bad s w hb, fun w => rval_bad s w hb⟩
  · exact ⟨true, _, fun w => val_good s w (by omega) (by omega), fun w => rval_good s w (by omega) (by omega)⟩
theorem nums_text (s : ByteArray) : ∃ (ok : Bool) (x : ByteArray),
    (∀ w, Calls Try.prog 14 #[.string s] w fun e w' => e = .returned (.tuple #[.string x, .int .i64 (if ok then 0 else 2)]) ∧ Below w.heap.size w w') ∧
    (∀ w, Calls Try.prog 15 #[.string s] w fun e w' => e = .returned (.tuple #[.string x, .bool ok]) ∧ Below w.heap.size w w') := by
  by_cases hb : 255 < s.size
  · exact ⟨false, _, fun w => text_long s w hb, fun w => rtext_long s w hb⟩
  · exact ⟨true, _, fun w => text_fits s w (by omega), fun w => rtext_fits s w (by omega)⟩

set_option maxHeartbeats 1000000 in
theorem walk_OctetNums (n width : Int) (s : ByteArray) (w : World) (h0 : 0 ≤ n) (hn : n ≤ 18446744073709551615) (_ : -9223372036854775808 ≤ width) (_ : width ≤ 9223372036854775807) (_ : s.size ≤ maxLen) :
    Calls Try.prog 3 #[.int .u64 n, .int .i64 width, .string s] w fun e w' => e = .returned (.bool true) ∧ Below w.heap.size w w' := by
  obtain ⟨k1, x, y, c1, d1, f1, g1⟩ := nums_num n width h0 hn
  obtain ⟨k2, v, c2, d2⟩ := nums_val s
  obtain ⟨k3, t, c3, d3⟩ := nums_text s
  obtain ⟨z, hz⟩ : ∃ z, x = z ∧ (if k1 then y else ⟨#[]⟩) = z := by
    refine ⟨x, rfl, ?_⟩
    cases k1
    · exact (g1 rfl).symm
    · exact f1 rfl
  obtain ⟨rfl, hy⟩ := hz
  have C1 := Lib.hid c1; have C2 := Lib.hid c2; have C3 := Lib.hid c3; have D1 := Lib.hid d1; have D2 := Lib.hid d2; have D3 := Lib.hid d3
  clear c1 c2 c3 d1 d2 d3 hn h0 f1 g1
  cases k1
  all_goals
    simp only [if_true, if_false, Bool.false_eq_true] at hy
    subst hy
    cases k2
    all_goals
      cases k3
      all_goals
        go_enter Try.func3, Try.ntmps3
        go_wp2_with fail
        refine (awake_any _).mono ?_
        rintro e w0 ⟨rfl, hb0⟩
        go_wp2_with fail
        refine (C1.out _).mono ?_
        rintro e w1 ⟨rfl, hb1⟩
        go_wp2_with fail
        refine (D1.out _).mono ?_
        rintro e w2 ⟨rfl, hb2⟩
        go_wp2_with fail
        refine (C2.out _).mono ?_
        rintro e w3 ⟨rfl, hb3⟩
        go_wp2_with fail
        refine (D2.out _).mono ?_
        rintro e w4 ⟨rfl, hb4⟩
        go_wp2_with fail
        refine (C3.out _).mono ?_
        rintro e w5 ⟨rfl, hb5⟩
        go_wp2_with fail
        refine (D3.out _).mono ?_
        rintro e w6 ⟨rfl, hb6⟩
        have hb : Below w.heap.size w w6 := by
          have a1 := hb0.trans (hb1.mono hb0.size)
          have a2 := a1.trans (hb2.mono a1.size)
          have a3 := a2.trans (hb3.mono a2.size)
          have a4 := a3.trans (hb4.mono a3.size)
          have a5 := a4.trans (hb5.mono a4.size)
          exact a5.trans (hb6.mono a5.size)
        clear hb0 hb1 hb2 hb3 hb4 hb5 hb6
        try simp only [if_true, if_false, Bool.false_eq_true]
        go_wp2
        go_ret
        exact ⟨rfl, hb⟩

end Go.Proofs.Ytfhdafpcppdjnaa
