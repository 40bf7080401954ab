/- The walks of OctetFits and OctetOrder. -/
import Derived.Test.YtfhdafpcppdjnaaOctLaws1
set_option linter.unusedVariables false
set_option linter.unusedSimpArgs false
namespace Go.Proofs.Ytfhdafpcppdjnaa
open Go.RowKit

set_option maxHeartbeats 400000 in
theorem walk_OctetFits (n width : Int) (w : World) (h0 : 0 ≤ n) (hn : n ≤ 18446744073709551615) (hl : -9223372036854775808 ≤ width) (hu : width ≤ 9223372036854775807) :
    Calls Try.prog 6 #[.int .u64 n, .int .i64 width] w fun e w' => e = .returned (.bool true) ∧ Below w.heap.size w w' := by
  by_cases hb : width < 1 ∨ 8 < width
  · have Hn := Lib.hid hn; clear hn
    have Hl := Lib.hid hl; have Hu := Lib.hid hu; clear hl hu
    rcases hb with hb | hb
    · go_enter Try.func6, Try.ntmps6
      go_wp2_with fail
      refine (awake_any _).mono ?_
      rintro e w0 ⟨rfl, hb0⟩
      go_wp2_with fail
      refine (num_bad' n width _ (.inl hb)).mono ?_
      rintro e w1 ⟨rfl, hb1⟩
      go_wp2
      go_ret
      exact ⟨rfl, hb0.trans (hb1.mono hb0.size)⟩
    · have hb' : ¬ width < 1 := by omega
      go_enter Try.func6, Try.ntmps6
      go_wp2_with fail
      refine (awake_any _).mono ?_
      rintro e w0 ⟨rfl, hb0⟩
      go_wp2_with fail
      refine (num_bad' n width _ (.inr hb)).mono ?_
      rintro e w1 ⟨rfl, hb1⟩
      go_wp2
      go_ret
      exact ⟨rfl, hb0.trans (hb1.mono hb0.size)⟩
  · have h1 : 1 ≤ width := by omega
    have h2 : width ≤ 8 := by omega
    have hl' := Lib.hid hl; have hu' := Lib.hid hu; clear hl hu hb
    by_cases hz : Oct.rest n.toNat width.toNat = 0
    · have c := fun w => num_fits' n width w h0 h1 h2 hn hz
      obtain ⟨x, hx, c⟩ : ∃ x : ByteArray, (x.size : Int) = width ∧ ∀ w : World, Calls Try.prog 10 #[.int .u64 n, .int .i64 width] w fun e w' => e = .returned (.tuple #[.string x, .int .i64 0]) ∧ Below w.heap.size w w' :=
        ⟨_, by rw [Oct.str_size]; omega, c⟩
      have C := Lib.hid c; clear c
      by_cases h8 : width = 8
      · subst h8
        have Hz := Lib.hid hz; clear hz
        have hxx : ((x.size : Int) == 8) = true := by simp; exact hx
        have Hx := Lib.hid hx; clear hx
        have Hn := Lib.hid hn; clear hn
        go_enter Try.func6, Try.ntmps6
        go_wp2_with fail
        refine (awake_any _).mono ?_
        rintro e w0 ⟨rfl, hb0⟩
        go_wp2_with fail
        refine (C.out _).mono ?_
        rintro e w1 ⟨rfl, hb1⟩
        go_wp2
        go_ret
        exact ⟨rfl, hb0.trans (hb1.mono hb0.size)⟩
      · have hlt := (Oct.fits_iff n width h0 h1 (by omega)).1 hz
        have h8' : (width == 8) = false := by simp [h8]
        have Hz := Lib.hid hz; clear hz h8
        have hxx : ((x.size : Int) == width) = true := by simp; exact hx
        have Hx := Lib.hid hx; clear hx
        have Hn := Lib.hid hn; clear hn
        go_enter Try.func6, Try.ntmps6
        go_wp2_with fail
        refine (awake_any _).mono ?_
        rintro e w0 ⟨rfl, hb0⟩
        go_wp2_with fail
        refine (C.out _).mono ?_
        rintro e w1 ⟨rfl, hb1⟩
        go_wp2
        go_ret
        exact ⟨rfl, hb0.trans (hb1.mono hb0.size)⟩
    · have c := fun w => num_over' n width w h0 h1 h2 hn hz
      have C := Lib.hid c; clear c
      have h7 : width ≤ 7 := by
        by_cases h8 : width = 8
        · subst h8
          exfalso; apply hz
          show n.toNat / 256 ^ 8 = 0
          exact Nat.div_eq_of_lt (by omega)
        · omega
      have hge : ¬ n < IntKind.u64.wrap (2 ^ (8 * width).toNat) := fun h => hz ((Oct.fits_iff n width h0 h1 h7).2 h)
      have Hz := Lib.hid hz; clear hz
      have Hn := Lib.hid hn; clear hn
      have h8' : (width == 8) = false := by simp; omega
      go_enter Try.func6, Try.ntmps6
      go_wp2_with fail
      refine (awake_any _).mono ?_
      rintro e w0 ⟨rfl, hb0⟩
      go_wp2_with fail
      refine (C.out _).mono ?_
      rintro e w1 ⟨rfl, hb1⟩
      go_wp2
      go_ret
      exact ⟨rfl, hb0.trans (hb1.mono hb0.size)⟩

end Go.Proofs.Ytfhdafpcppdjnaa
