/- The walk of the law's awake. -/
import Derived.Test.YtplcddcdhnjfeaaWalFlush
set_option linter.unusedVariables false
set_option linter.unusedSimpArgs false
namespace Go.Proofs.Ytplcddcdhnjfeaa
open Go.RowKit

def awL : Lg := ⟨0, 128, 54, 58, 54, ⟨#[2, 0, 97, 98]⟩, [54]⟩
theorem aw_app : (Lg.new 0 128).append ⟨#[97, 98]⟩ = (awL, 54, 0) := by kernel_rfl
theorem aw_err : (awL.flush (.start (blanks 128)) 54).2.2 = 0 := by kernel_rfl
theorem aw_read : (awL.flush (.start (blanks 128)) 54).2.1.read 1 = (awL.sec 1, 0) := by kernel_rfl
theorem aw_sec : (awL.sec 1).extract 0 14 = ⟨#[2, 0, 0, 0, 0, 0, 0, 0, 4, 0, 2, 0, 97, 98]⟩ := by kernel_rfl
theorem aw_size : (awL.sec 1).size = 64 := awL.sec_size 1

set_option maxRecDepth 100000 in
set_option maxHeartbeats 2000000 in
theorem awake_any (w : World) :
    Calls Try.prog 8 #[] w fun e w' => e = .returned (.bool true) ∧ Below w.heap.size w w' := by
  have CN := Lib.hid (new_good 128 w (by omega) (by omega))
  have A1 := Lib.hid aw_app; have A2 := Lib.hid aw_err; have A3 := Lib.hid aw_read; have A4 := Lib.hid aw_sec; have A5 := Lib.hid aw_size
  go_enter Try.func8, Try.ntmps8
  go_wp2_with fail
  refine CN.out.mono ?_
  rintro e w1 ⟨I, rfl, hd, hb⟩
  have B1 := Lib.hid hb
  have CC := Lib.hid (create_good 128 0 128 hd (by omega) (by omega) (by omega) hb.size)
  clear hd hb CN
  unfold Ids.ptr at *
  go_wp2_with fail
  refine CC.out.mono ?_
  rintro e w2 ⟨g, p', rfl, hw, hb⟩
  have B2 := Lib.hid (B1.out.trans hb)
  have W2 := Lib.hid hw
  have CA := Lib.hid (append_any hw ⟨#[97, 98]⟩ B2.out.size (by decide) (by show 54 ≤ 1152921504606000000; omega))
  clear hw hb CC B1
  unfold AppPost at CA
  rw [A1.out] at CA
  unfold Wd.ptr at *
  dsimp only at CA
  go_wp2_with fail
  refine CA.out.mono ?_
  rintro e w3 ⟨rfl, dv, pv, hw, ho, -⟩
  have B3 := Lib.hid (B2.out.trans (app_below W2.out ho B2.out.size))
  have W3 := Lib.hid hw
  have CF := Lib.hid (flush_any hw 54 B3.out.size (by show 0 ≤ _; omega))
  clear hw ho CA B2
  unfold FlushPost at CF
  rw [A2.out] at CF
  unfold Wd.ptr at *
  dsimp only at CF
  go_wp2_with fail
  refine CF.out.mono ?_
  rintro e w4 ⟨rfl, p2, hw, ho⟩
  have B4 := Lib.hid (B3.out.trans (df_below W3.out ho B3.out.size))
  have CR := Lib.hid (read_any hw.dsk 1)
  clear hw ho CF B3
  rw [A3.out] at CR
  unfold Ids.ptr Ids.with at *
  dsimp only at CR
  go_wp2_with fail
  refine CR.out.mono ?_
  rintro e w5 ⟨rfl, hw⟩
  subst w5
  have hq : (((awL.sec 1).extract 0 14).toList == [2, 0, 0, 0, 0, 0, 0, 0, 4, 0, 2, 0, 97, 98]) = true := by rw [A4.out, ByteArray.toList_eq]; rfl
  go_wp2_with fail
  go_ret
  exact ⟨rfl, B4.out⟩
end Go.Proofs.Ytplcddcdhnjfeaa
