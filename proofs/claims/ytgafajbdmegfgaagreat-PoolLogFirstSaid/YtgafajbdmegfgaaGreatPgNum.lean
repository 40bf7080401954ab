/- The walks of package page: number, zeros; of the document's own: Put. -/
import Derived.Test.YtgafajbdmegfgaaGreatPgWalk
import Derived.Test.YtgafajbdmegfgaaGreatOctNum
import Derived.Test.YtgafajbdmegfgaaGreatOctRNum
import Derived.Test.YtgafajbdmegfgaaGreatZs
import Derived.Test.YtgafajbdmegfgaaGreatOctPlain2
set_option linter.unusedVariables false
set_option linter.unusedSimpArgs false
namespace Go.Proofs.YtgafajbdmegfgaaGreat
open Go.RowKit

theorem rest_small (n w : Nat) (h : n < 256 ^ w) : Oct.rest n w = 0 := Nat.div_eq_of_lt h
theorem number_any (n width : Nat) (w : World) (h1 : 1 ≤ width) (h2 : width ≤ 8) (hn : n ≤ 9223372036854775807) (hz : n < 256 ^ width) :
    Calls Tryz.prog 77 #[.int .i64 n, .int .i64 width] w fun e w' => e = .returned (.string (Oct.str n width)) ∧ Below w.heap.size w w' := by
  have c := num_fits n width w h1 h2 (by omega) (rest_small n width hz)
  have C := Lib.hid c
  clear c hz
  go_enter Tryz.func77, Tryz.ntmps77
  go_wp2_with fail
  refine C.out.mono ?_
  rintro e w1 ⟨rfl, hw⟩
  subst w1
  clear C
  go_wp2
  go_ret
  exact ⟨rfl, (Below.refl _ _).alloc (Nat.le_refl _) _⟩
theorem put_any (n width : Nat) (w : World) (h1 : 1 ≤ width) (h2 : width ≤ 8) (hn : n ≤ 9223372036854775807) (hz : n < 256 ^ width) :
    Calls Tryz.prog 65 #[.int .i64 n, .int .i64 width] w fun e w' => e = .returned (.string (Oct.str n width)) ∧ Below w.heap.size w w' := by
  have c := rnum_good n width w h1 h2 (by omega)
  have C := Lib.hid c
  clear c hz
  go_enter Tryz.func65, Tryz.ntmps65
  go_wp2_with fail
  refine C.out.mono ?_
  rintro e w1 ⟨rfl, hb⟩
  clear C
  have HB := Lib.hid hb; clear hb
  go_wp2
  go_ret
  exact ⟨rfl, HB.out⟩
theorem fill_cut : ∀ n : Fin 35, (⟨#[0, 0, 0, 0, 0, 0, 0, 0, 0, 0, 0, 0, 0, 0, 0, 0, 0, 0, 0, 0, 0, 0, 0, 0, 0, 0, 0, 0, 0, 0, 0, 0, 0, 0]⟩ : ByteArray).extract n 34 = Fr.zs (34 - n) := by decide
theorem zeros_any (n : Nat) (w : World) (h : n ≤ 34) :
    Calls Tryz.prog 74 #[.int .i64 n] w fun e w' => e = .returned (.string (Fr.zs (34 - n))) ∧ w' = w := by
  go_enter Tryz.func74, Tryz.ntmps74
  go_wp2
  go_ret
  refine ⟨?_, rfl⟩
  rw [← fill_cut ⟨n, by omega⟩]
  rfl
end Go.Proofs.YtgafajbdmegfgaaGreat
