/- The walk of the law's own awake. -/
import Derived.Test.YtedoechjjcbeeaaNodEq
import Derived.Test.YtedoechjjcbeeaaNodCell2
import Derived.Test.YtedoechjjcbeeaaNodCheck
set_option linter.unusedVariables false
set_option linter.unusedSimpArgs false
namespace Go.Proofs.Ytedoechjjcbeeaa
open Go.RowKit

def kpg : Pg := ⟨4, 0, 0, 0, fun _ => ⟨0, ⟨#[]⟩⟩⟩
def acel : Ce := ⟨1, ⟨#[1, 98, 120]⟩⟩
def apg : Pg := ⟨4, 0, 0, 0, fun i => if i = 0 then acel else ⟨0, ⟨#[]⟩⟩⟩
theorem a_leaf : leafC ⟨#[98]⟩ ⟨#[120]⟩ 1 = acel ∧ leafE ⟨#[98]⟩ ⟨#[120]⟩ 1 = 0 := by
  have h : leafOk ⟨#[98]⟩ ⟨#[120]⟩ 1 := by decide
  unfold leafC leafE
  rw [if_pos h, if_pos h]
  exact ⟨by kernel_rfl, rfl⟩
theorem a_says : acel.says := by decide +kernel
theorem a_cnt0 : cnt kpg.c = 0 := by decide
theorem a_put : (putP kpg acel).v = apg.v ∧ putE kpg acel = 0 := by
  have hc := a_cnt0
  have h0 : fAt kpg acel.key = 0 := by have := fAt_le kpg acel.key; omega
  have ht : fThere kpg acel.key = false := by unfold fThere; rw [h0, hc]; rfl
  have e : putE kpg acel = 0 := by
    unfold putE
    rw [if_neg (by simp [a_says]), if_neg (by simp [ht]), if_neg (by omega)]
  refine ⟨?_, e⟩
  unfold putP
  rw [if_pos e, h0, hc]
  unfold Pg.v
  rw [Pg.cs_eq (q := apg)]
  refine ⟨rfl, rfl, rfl, rfl, fun i hi => ?_⟩
  simp only [Pg.ins, Pg.set, Pg.blit, apg]
  by_cases h : i = 0
  · rw [if_pos h, if_pos h]
  · rw [if_neg h, if_neg h, if_neg (by omega)]; rfl
theorem a_cnt : cnt apg.c = 1 := by decide
theorem a_find : fAt apg ⟨#[99]⟩ = 1 ∧ fThere apg ⟨#[99]⟩ = false := by
  have h : fAt apg ⟨#[99]⟩ = 1 := fnd_eq _ _ 1 (by rw [a_cnt]; omega) (fun q hq => by
    obtain rfl : q = 0 := by omega
    show slt (acel.key) ⟨#[99]⟩ = true
    have hk : acel.key = ⟨#[98]⟩ := by rw [Ce.key_yes a_says]; kernel_rfl
    rw [hk]
    unfold slt
    rw [ByteArray.toList_eq, ByteArray.toList_eq]
    rfl) (fun h => by rw [a_cnt] at h; omega)
  exact ⟨h, by unfold fThere; rw [h, a_cnt]; rfl⟩
theorem a_szk : Sz kpg.c := fun i _ => by show (0 : Nat) ≤ maxLen; exact Nat.zero_le _
theorem a_sza : Sz apg.c := fun i _ => by
  show (if i = 0 then acel else ⟨0, ⟨#[]⟩⟩ : Ce).d.size ≤ maxLen
  split <;> (unfold maxLen; decide)
theorem a_szz : Sz Pg.zero.c := fun i _ => by show (0 : Nat) ≤ maxLen; exact Nat.zero_le _
set_option maxRecDepth 100000 in
set_option maxHeartbeats 1000000 in
theorem awake_any (w : World) :
    Calls Try.prog 9 #[] w fun e w' => e = .returned (.bool true) ∧ Below w.heap.size w w' := by
  have c1 := fun w => leaf_any ⟨#[98]⟩ ⟨#[120]⟩ 1 w (by unfold maxLen; decide) (by unfold maxLen; decide)
  have c2 := fun w => nput_any kpg acel w a_szk (by unfold maxLen; decide)
  have c3 := fun w => find_any apg ⟨#[99]⟩ w a_sza
  have c4 := fun w => count_any apg w
  have c5 := fun w => check_any Pg.zero w a_szz
  rw [a_leaf.1, a_leaf.2] at c1
  rw [a_put.1, a_put.2] at c2
  unfold IsFnd at c3
  rw [a_find.1, a_find.2] at c3
  rw [a_cnt] at c4
  rw [show nodeE Pg.zero = 40 from if_neg fun k => absurd k.1.1 (by decide)] at c5
  have C1 := Lib.hid c1; have C2 := Lib.hid c2; have C3 := Lib.hid c3; have C4 := Lib.hid c4; have C5 := Lib.hid c5
  clear c1 c2 c3 c4 c5
  go_enter Try.func9, Try.ntmps9
  go_wp2_with fail
  refine (C1.out _).mono ?_
  rintro e w2 ⟨rfl, hb2⟩
  have B2 := Lib.hid ((hb2.alloc hb2.size (.cells #[.int .i64 1, .string ⟨#[1, 98, 120]⟩] 23)))
  have K2 := Lib.hid (Bk.new w2 23 #[.int .i64 1, .string ⟨#[1, 98, 120]⟩])
  have Z2 := Lib.hid hb2.size
  clear hb2 C1
  unfold Ce.v acel
  go_wp2_with fail
  generalize w2.alloc (.cells #[.int .i64 1, .string ⟨#[1, 98, 120]⟩] 23) = w3 at *
  refine (C2.out _).mono ?_
  rintro e w4 ⟨rfl, hb4⟩
  have k4 := K2.out.kept hb4
  have b4 := below_then B2.out hb4 B2.out.size
  have K5 := Lib.hid (Bk.new w4 40 apg.cs)
  have B5 := Lib.hid (b4.alloc b4.size (.cells apg.cs 40))
  have L5 := Lib.hid (k4.alloc (.cells apg.cs 40))
  clear hb4 k4 b4 K2 B2 C2
  unfold Pg.v
  go_wp2_with (first | (refine store_page_new rfl _ _ rfl apg rfl rfl ?_; generalize (w4.alloc (.cells apg.cs 40)) = w5 at K5 B5 L5 ⊢) | (refine load_page rfl _ rfl w4.heap.size apg rfl K5.out ?_))
  refine (C3.out _).mono ?_
  rintro e w6 ⟨j, b, rfl, ⟨rfl, rfl⟩, hb6⟩
  have K6 := Lib.hid (K5.out.kept hb6); have L6 := Lib.hid (L5.out.kept hb6)
  have B6 := Lib.hid (below_then B5.out hb6 B5.out.size)
  clear hb6 K5 L5 B5 C3
  have l0 := L6.out.cell 0; have l1 := L6.out.cell 1
  simp only [List.getElem?_toArray, List.getElem?_cons_zero, List.getElem?_cons_succ] at l0 l1
  go_wp2_with (refine load_page_if _ rfl (by first | rfl | kernel_rfl) w4.heap.size apg rfl K6.out ?_)
  refine (C4.out _).mono ?_
  rintro e w7 ⟨rfl, hb7⟩
  have B7 := Lib.hid (below_then B6.out hb7 B6.out.size)
  clear hb7 K6 L6 B6 C4 l0 l1
  go_wp2_with fail
  refine (C5.out _).mono ?_
  rintro e w8 ⟨rfl, hb8⟩
  have B8 := Lib.hid (below_then B7.out hb8 B7.out.size)
  clear hb8 B7 C5
  go_wp2
  go_ret
  exact ⟨rfl, B8.out⟩
end Go.Proofs.Ytedoechjjcbeeaa
