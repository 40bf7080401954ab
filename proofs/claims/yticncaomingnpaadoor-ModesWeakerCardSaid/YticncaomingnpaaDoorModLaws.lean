/- The walks of the modes' laws. -/
import Derived.Test.YticncaomingnpaaDoorModWalk2
set_option linter.unusedVariables false
set_option linter.unusedSimpArgs false
namespace Go.Proofs.YticncaomingnpaaDoor
open Go.RowKit

set_option maxHeartbeats 1000000 in
theorem awake_any (w : World) (hT : Tab w) :
    Calls Tryd.prog 7 #[] w fun e w' => e = .returned (.bool true) ∧ Below w.heap.size w w' := by
  have HT := Lib.hid hT; clear hT
  have e1 : Md.join 3 2 = 4 := by decide
  have e2 : Md.comp 5 3 = true := by decide
  have e3 : Md.comp 5 5 = false := by decide
  go_enter Tryd.func7, Tryd.ntmps7
  have hB0 : Below w.heap.size w w := Below.refl _ _
  go_wp2_with fail
  refine (join_any _ _ _ HT.out).mono ?_
  rintro e w1 ⟨rfl, hb1⟩
  have T1 := Lib.hid (Tab.below HT.out hb1)
  have hB1 := below_then hB0 hb1 hB0.size
  clear hb1 hB0
  go_wp2_with fail
  refine (comp_any _ _ _ T1.out).mono ?_
  rintro e w2 ⟨rfl, hb2⟩
  have T2 := Lib.hid (Tab.below T1.out hb2)
  have hB2 := below_then hB1 hb2 hB1.size
  clear hb2 hB1 T1
  go_wp2_with fail
  refine (comp_any _ _ _ T2.out).mono ?_
  rintro e w3 ⟨rfl, hb3⟩
  have T3 := Lib.hid (Tab.below T2.out hb3)
  have hB3 := below_then hB2 hb3 hB2.size
  clear hb3 hB2 T2
  go_wp2
  go_ret
  exact ⟨rfl, hB3⟩

set_option maxHeartbeats 1000000 in
theorem walk_ModesTables (a : Int) (b : Int) (w : World) (hT : Tab w) (_ : -9223372036854775808 ≤ a) (_ : a ≤ 9223372036854775807) (_ : -9223372036854775808 ≤ b) (_ : b ≤ 9223372036854775807) :
    Calls Tryd.prog 3 #[.int .i64 a, .int .i64 b] w fun e w' => e = .returned (.bool true) ∧ Below w.heap.size w w' := by
  have HT := Lib.hid hT; clear hT
  go_enter Tryd.func3, Tryd.ntmps3
  have hB0 : Below w.heap.size w w := Below.refl _ _
  go_wp2_with fail
  refine (awake_any _ HT.out).mono ?_
  rintro e w1 ⟨rfl, hb1⟩
  have T1 := Lib.hid (Tab.below HT.out hb1)
  have hB1 := below_then hB0 hb1 hB0.size
  clear hb1 hB0
  go_wp2_with fail
  refine (comp_any _ _ _ T1.out).mono ?_
  rintro e w2 ⟨rfl, hb2⟩
  have T2 := Lib.hid (Tab.below T1.out hb2)
  have hB2 := below_then hB1 hb2 hB1.size
  clear hb2 hB1 T1
  go_wp2_with fail
  refine (rcomp_any _ _ _).mono ?_
  rintro e w3 ⟨rfl, hb3⟩
  have T3 := Lib.hid (Tab.below T2.out hb3)
  have hB3 := below_then hB2 hb3 hB2.size
  clear hb3 hB2 T2
  go_wp2_with fail
  refine (join_any _ _ _ T3.out).mono ?_
  rintro e w4 ⟨rfl, hb4⟩
  have T4 := Lib.hid (Tab.below T3.out hb4)
  have hB4 := below_then hB3 hb4 hB3.size
  clear hb4 hB3 T3
  go_wp2_with fail
  refine (rjoin_any _ _ _).mono ?_
  rintro e w5 ⟨rfl, hb5⟩
  have T5 := Lib.hid (Tab.below T4.out hb5)
  have hB5 := below_then hB4 hb5 hB4.size
  clear hb5 hB4 T4
  go_wp2_with fail
  refine (cov_any _ _ _ T5.out).mono ?_
  rintro e w6 ⟨rfl, hb6⟩
  have T6 := Lib.hid (Tab.below T5.out hb6)
  have hB6 := below_then hB5 hb6 hB5.size
  clear hb6 hB5 T5
  go_wp2_with fail
  refine (rcov_any _ _ _).mono ?_
  rintro e w7 ⟨rfl, hb7⟩
  have T7 := Lib.hid (Tab.below T6.out hb7)
  have hB7 := below_then hB6 hb7 hB6.size
  clear hb7 hB6 T6
  go_wp2_with fail
  refine (abv_any _ _ T7.out).mono ?_
  rintro e w8 ⟨rfl, hb8⟩
  have T8 := Lib.hid (Tab.below T7.out hb8)
  have hB8 := below_then hB7 hb8 hB7.size
  clear hb8 hB7 T7
  go_wp2_with fail
  refine (rabv_any _ _).mono ?_
  rintro e w9 ⟨rfl, hb9⟩
  have T9 := Lib.hid (Tab.below T8.out hb9)
  have hB9 := below_then hB8 hb9 hB8.size
  clear hb9 hB8 T8
  go_wp2
  go_ret
  exact ⟨rfl, hB9⟩

set_option maxHeartbeats 1000000 in
theorem walk_ModesJoin (a : Int) (b : Int) (c : Int) (w : World) (hT : Tab w) (_ : -9223372036854775808 ≤ a) (_ : a ≤ 9223372036854775807) (_ : -9223372036854775808 ≤ b) (_ : b ≤ 9223372036854775807) (_ : -9223372036854775808 ≤ c) (_ : c ≤ 9223372036854775807) :
    Calls Tryd.prog 4 #[.int .i64 a, .int .i64 b, .int .i64 c] w fun e w' => e = .returned (.bool true) ∧ Below w.heap.size w w' := by
  have HT := Lib.hid hT; clear hT
  rcases ha : Md.inR a
  · go_enter Tryd.func4, Tryd.ntmps4
    have hB0 : Below w.heap.size w w := Below.refl _ _
    go_wp2_with fail
    refine (awake_any _ HT.out).mono ?_
    rintro e w1 ⟨rfl, hb1⟩
    have T1 := Lib.hid (Tab.below HT.out hb1)
    have hB1 := below_then hB0 hb1 hB0.size
    clear hb1 hB0
    go_wp2_with fail
    refine (rMode_any _ _).mono ?_
    rintro e w' ⟨rfl, rfl⟩
    go_wp2
    go_ret
    exact ⟨rfl, hB1⟩
  · rcases hb : Md.inR b
    · go_enter Tryd.func4, Tryd.ntmps4
      have hB0 : Below w.heap.size w w := Below.refl _ _
      go_wp2_with fail
      refine (awake_any _ HT.out).mono ?_
      rintro e w1 ⟨rfl, hb1⟩
      have T1 := Lib.hid (Tab.below HT.out hb1)
      have hB1 := below_then hB0 hb1 hB0.size
      clear hb1 hB0
      go_wp2_with fail
      refine (rMode_any _ _).mono ?_
      rintro e w' ⟨rfl, rfl⟩
      go_wp2_with fail
      refine (rMode_any _ _).mono ?_
      rintro e w' ⟨rfl, rfl⟩
      go_wp2
      go_ret
      exact ⟨rfl, hB1⟩
    · rcases hc : Md.inR c
      · go_enter Tryd.func4, Tryd.ntmps4
        have hB0 : Below w.heap.size w w := Below.refl _ _
        go_wp2_with fail
        refine (awake_any _ HT.out).mono ?_
        rintro e w1 ⟨rfl, hb1⟩
        have T1 := Lib.hid (Tab.below HT.out hb1)
        have hB1 := below_then hB0 hb1 hB0.size
        clear hb1 hB0
        go_wp2_with fail
        refine (rMode_any _ _).mono ?_
        rintro e w' ⟨rfl, rfl⟩
        go_wp2_with fail
        refine (rMode_any _ _).mono ?_
        rintro e w' ⟨rfl, rfl⟩
        go_wp2_with fail
        refine (rMode_any _ _).mono ?_
        rintro e w' ⟨rfl, rfl⟩
        go_wp2
        go_ret
        exact ⟨rfl, hB1⟩
      · have IA := Lib.hid ha; have IB := Lib.hid hb; have IC := Lib.hid hc
        obtain ⟨m, hm, rfl⟩ := Md.inR_yes ha
        obtain ⟨n, hn, rfl⟩ := Md.inR_yes hb
        obtain ⟨k, hk, rfl⟩ := Md.inR_yes hc
        obtain ⟨f1, f2, f3, f4, f5, f6, f7⟩ := Md.join3 ⟨m, hm⟩ ⟨n, hn⟩ ⟨k, hk⟩
        simp only at f1 f2 f3 f4 f5 f6 f7
        have cj := fun w h => join_any m n w h
        have cj2 := fun w h => join_any n m w h
        rw [← f1] at cj2
        have ck := fun w h => join_any (Md.join m n) k w h
        have ck2 := fun w h => join_any m (Md.join n k) w h
        rw [← f2] at ck2
        have cc := fun w h => comp_any m n w h
        have cc2 := fun w h => comp_any n m w h
        rw [← f6] at cc2
        have f5' := Lib.hid f5
        have CJ := Lib.hid cj; have CJ2 := Lib.hid cj2; have CK := Lib.hid ck; have CK2 := Lib.hid ck2; have CC := Lib.hid cc; have CC2 := Lib.hid cc2
        have ca := fun w h => join_any m m w h
        rw [f5] at ca
        have CA := Lib.hid ca
        have F7 := Lib.hid f7
        clear cj cj2 ck ck2 cc cc2 f1 f2 f6 f5 f7 ca hm hn hk
        generalize Md.join (Md.join m n) k = x at *
        generalize Md.join m n = j at *
        rcases F7.out with g | ⟨g1, g2⟩
        · have i1 := IA.out; have i2 := IB.out; have i3 := IC.out
          go_enter Tryd.func4, Tryd.ntmps4
          have hB0 : Below w.heap.size w w := Below.refl _ _
          go_wp2_with fail
          refine (awake_any _ HT.out).mono ?_
          rintro e w1 ⟨rfl, hb1⟩
          have T1 := Lib.hid (Tab.below HT.out hb1)
          have hB1 := below_then hB0 hb1 hB0.size
          clear hb1 hB0
          go_wp2_with fail
          refine (rMode_any _ _).mono ?_
          rintro e w' ⟨rfl, rfl⟩
          go_wp2_with fail
          refine (rMode_any _ _).mono ?_
          rintro e w' ⟨rfl, rfl⟩
          go_wp2_with fail
          refine (rMode_any _ _).mono ?_
          rintro e w' ⟨rfl, rfl⟩
          go_wp2_with fail
          refine (CJ.out _ T1.out).mono ?_
          rintro e w2 ⟨rfl, hb2⟩
          have T2 := Lib.hid (Tab.below T1.out hb2)
          have hB2 := below_then hB1 hb2 hB1.size
          clear hb2 hB1 T1
          go_wp2_with fail
          refine (CJ2.out _ T2.out).mono ?_
          rintro e w3 ⟨rfl, hb3⟩
          have T3 := Lib.hid (Tab.below T2.out hb3)
          have hB3 := below_then hB2 hb3 hB2.size
          clear hb3 hB2 T2
          go_wp2_with fail
          refine (CK.out _ T3.out).mono ?_
          rintro e w4 ⟨rfl, hb4⟩
          have T4 := Lib.hid (Tab.below T3.out hb4)
          have hB4 := below_then hB3 hb4 hB3.size
          clear hb4 hB3 T3
          go_wp2_with fail
          refine (join_any _ _ _ T4.out).mono ?_
          rintro e w5 ⟨rfl, hb5⟩
          have T5 := Lib.hid (Tab.below T4.out hb5)
          have hB5 := below_then hB4 hb5 hB4.size
          clear hb5 hB4 T4
          go_wp2_with fail
          refine (CK2.out _ T5.out).mono ?_
          rintro e w6 ⟨rfl, hb6⟩
          have T6 := Lib.hid (Tab.below T5.out hb6)
          have hB6 := below_then hB5 hb6 hB5.size
          clear hb6 hB5 T5
          go_wp2_with fail
          refine (cov_any _ _ _ T6.out).mono ?_
          rintro e w7 ⟨rfl, hb7⟩
          have T7 := Lib.hid (Tab.below T6.out hb7)
          have hB7 := below_then hB6 hb7 hB6.size
          clear hb7 hB6 T6
          go_wp2_with fail
          refine (cov_any _ _ _ T7.out).mono ?_
          rintro e w8 ⟨rfl, hb8⟩
          have T8 := Lib.hid (Tab.below T7.out hb8)
          have hB8 := below_then hB7 hb8 hB7.size
          clear hb8 hB7 T7
          go_wp2_with fail
          refine (CA.out _ T8.out).mono ?_
          rintro e w9 ⟨rfl, hb9⟩
          have T9 := Lib.hid (Tab.below T8.out hb9)
          have hB9 := below_then hB8 hb9 hB8.size
          clear hb9 hB8 T8
          go_wp2_with fail
          refine (CC.out _ T9.out).mono ?_
          rintro e w10 ⟨rfl, hb10⟩
          have T10 := Lib.hid (Tab.below T9.out hb10)
          have hB10 := below_then hB9 hb10 hB9.size
          clear hb10 hB9 T9
          go_wp2_with fail
          refine (CC2.out _ T10.out).mono ?_
          rintro e w11 ⟨rfl, hb11⟩
          have T11 := Lib.hid (Tab.below T10.out hb11)
          have hB11 := below_then hB10 hb11 hB10.size
          clear hb11 hB10 T10
          go_wp2_with fail
          refine (comp_any _ _ _ T11.out).mono ?_
          rintro e w12 ⟨rfl, hb12⟩
          have T12 := Lib.hid (Tab.below T11.out hb12)
          have hB12 := below_then hB11 hb12 hB11.size
          clear hb12 hB11 T11
          go_wp2
          go_ret
          exact ⟨rfl, hB12⟩
        · rcases h8 : Md.comp k j
          · have i1 := IA.out; have i2 := IB.out; have i3 := IC.out
            go_enter Tryd.func4, Tryd.ntmps4
            have hB0 : Below w.heap.size w w := Below.refl _ _
            go_wp2_with fail
            refine (awake_any _ HT.out).mono ?_
            rintro e w1 ⟨rfl, hb1⟩
            have T1 := Lib.hid (Tab.below HT.out hb1)
            have hB1 := below_then hB0 hb1 hB0.size
            clear hb1 hB0
            go_wp2_with fail
            refine (rMode_any _ _).mono ?_
            rintro e w' ⟨rfl, rfl⟩
            go_wp2_with fail
            refine (rMode_any _ _).mono ?_
            rintro e w' ⟨rfl, rfl⟩
            go_wp2_with fail
            refine (rMode_any _ _).mono ?_
            rintro e w' ⟨rfl, rfl⟩
            go_wp2_with fail
            refine (CJ.out _ T1.out).mono ?_
            rintro e w2 ⟨rfl, hb2⟩
            have T2 := Lib.hid (Tab.below T1.out hb2)
            have hB2 := below_then hB1 hb2 hB1.size
            clear hb2 hB1 T1
            go_wp2_with fail
            refine (CJ2.out _ T2.out).mono ?_
            rintro e w3 ⟨rfl, hb3⟩
            have T3 := Lib.hid (Tab.below T2.out hb3)
            have hB3 := below_then hB2 hb3 hB2.size
            clear hb3 hB2 T2
            go_wp2_with fail
            refine (CK.out _ T3.out).mono ?_
            rintro e w4 ⟨rfl, hb4⟩
            have T4 := Lib.hid (Tab.below T3.out hb4)
            have hB4 := below_then hB3 hb4 hB3.size
            clear hb4 hB3 T3
            go_wp2_with fail
            refine (join_any _ _ _ T4.out).mono ?_
            rintro e w5 ⟨rfl, hb5⟩
            have T5 := Lib.hid (Tab.below T4.out hb5)
            have hB5 := below_then hB4 hb5 hB4.size
            clear hb5 hB4 T4
            go_wp2_with fail
            refine (CK2.out _ T5.out).mono ?_
            rintro e w6 ⟨rfl, hb6⟩
            have T6 := Lib.hid (Tab.below T5.out hb6)
            have hB6 := below_then hB5 hb6 hB5.size
            clear hb6 hB5 T5
            go_wp2_with fail
            refine (cov_any _ _ _ T6.out).mono ?_
            rintro e w7 ⟨rfl, hb7⟩
            have T7 := Lib.hid (Tab.below T6.out hb7)
            have hB7 := below_then hB6 hb7 hB6.size
            clear hb7 hB6 T6
            go_wp2_with fail
            refine (cov_any _ _ _ T7.out).mono ?_
            rintro e w8 ⟨rfl, hb8⟩
            have T8 := Lib.hid (Tab.below T7.out hb8)
            have hB8 := below_then hB7 hb8 hB7.size
            clear hb8 hB7 T7
            go_wp2_with fail
            refine (CA.out _ T8.out).mono ?_
            rintro e w9 ⟨rfl, hb9⟩
            have T9 := Lib.hid (Tab.below T8.out hb9)
            have hB9 := below_then hB8 hb9 hB8.size
            clear hb9 hB8 T8
            go_wp2_with fail
            refine (CC.out _ T9.out).mono ?_
            rintro e w10 ⟨rfl, hb10⟩
            have T10 := Lib.hid (Tab.below T9.out hb10)
            have hB10 := below_then hB9 hb10 hB9.size
            clear hb10 hB9 T9
            go_wp2_with fail
            refine (CC2.out _ T10.out).mono ?_
            rintro e w11 ⟨rfl, hb11⟩
            have T11 := Lib.hid (Tab.below T10.out hb11)
            have hB11 := below_then hB10 hb11 hB10.size
            clear hb11 hB10 T10
            go_wp2_with fail
            refine (comp_any _ _ _ T11.out).mono ?_
            rintro e w12 ⟨rfl, hb12⟩
            have T12 := Lib.hid (Tab.below T11.out hb12)
            have hB12 := below_then hB11 hb12 hB11.size
            clear hb12 hB11 T11
            go_wp2
            go_ret
            exact ⟨rfl, hB12⟩
          · have i1 := IA.out; have i2 := IB.out; have i3 := IC.out
            go_enter Tryd.func4, Tryd.ntmps4
            have hB0 : Below w.heap.size w w := Below.refl _ _
            go_wp2_with fail
            refine (awake_any _ HT.out).mono ?_
            rintro e w1 ⟨rfl, hb1⟩
            have T1 := Lib.hid (Tab.below HT.out hb1)
            have hB1 := below_then hB0 hb1 hB0.size
            clear hb1 hB0
            go_wp2_with fail
            refine (rMode_any _ _).mono ?_
            rintro e w' ⟨rfl, rfl⟩
            go_wp2_with fail
            refine (rMode_any _ _).mono ?_
            rintro e w' ⟨rfl, rfl⟩
            go_wp2_with fail
            refine (rMode_any _ _).mono ?_
            rintro e w' ⟨rfl, rfl⟩
            go_wp2_with fail
            refine (CJ.out _ T1.out).mono ?_
            rintro e w2 ⟨rfl, hb2⟩
            have T2 := Lib.hid (Tab.below T1.out hb2)
            have hB2 := below_then hB1 hb2 hB1.size
            clear hb2 hB1 T1
            go_wp2_with fail
            refine (CJ2.out _ T2.out).mono ?_
            rintro e w3 ⟨rfl, hb3⟩
            have T3 := Lib.hid (Tab.below T2.out hb3)
            have hB3 := below_then hB2 hb3 hB2.size
            clear hb3 hB2 T2
            go_wp2_with fail
            refine (CK.out _ T3.out).mono ?_
            rintro e w4 ⟨rfl, hb4⟩
            have T4 := Lib.hid (Tab.below T3.out hb4)
            have hB4 := below_then hB3 hb4 hB3.size
            clear hb4 hB3 T3
            go_wp2_with fail
            refine (join_any _ _ _ T4.out).mono ?_
            rintro e w5 ⟨rfl, hb5⟩
            have T5 := Lib.hid (Tab.below T4.out hb5)
            have hB5 := below_then hB4 hb5 hB4.size
            clear hb5 hB4 T4
            go_wp2_with fail
            refine (CK2.out _ T5.out).mono ?_
            rintro e w6 ⟨rfl, hb6⟩
            have T6 := Lib.hid (Tab.below T5.out hb6)
            have hB6 := below_then hB5 hb6 hB5.size
            clear hb6 hB5 T5
            go_wp2_with fail
            refine (cov_any _ _ _ T6.out).mono ?_
            rintro e w7 ⟨rfl, hb7⟩
            have T7 := Lib.hid (Tab.below T6.out hb7)
            have hB7 := below_then hB6 hb7 hB6.size
            clear hb7 hB6 T6
            go_wp2_with fail
            refine (cov_any _ _ _ T7.out).mono ?_
            rintro e w8 ⟨rfl, hb8⟩
            have T8 := Lib.hid (Tab.below T7.out hb8)
            have hB8 := below_then hB7 hb8 hB7.size
            clear hb8 hB7 T7
            go_wp2_with fail
            refine (CA.out _ T8.out).mono ?_
            rintro e w9 ⟨rfl, hb9⟩
            have T9 := Lib.hid (Tab.below T8.out hb9)
            have hB9 := below_then hB8 hb9 hB8.size
            clear hb9 hB8 T8
            go_wp2_with fail
            refine (CC.out _ T9.out).mono ?_
            rintro e w10 ⟨rfl, hb10⟩
            have T10 := Lib.hid (Tab.below T9.out hb10)
            have hB10 := below_then hB9 hb10 hB9.size
            clear hb10 hB9 T9
            go_wp2_with fail
            refine (CC2.out _ T10.out).mono ?_
            rintro e w11 ⟨rfl, hb11⟩
            have T11 := Lib.hid (Tab.below T10.out hb11)
            have hB11 := below_then hB10 hb11 hB10.size
            clear hb11 hB10 T10
            go_wp2_with fail
            refine (comp_any _ _ _ T11.out).mono ?_
            rintro e w12 ⟨rfl, hb12⟩
            have T12 := Lib.hid (Tab.below T11.out hb12)
            have hB12 := below_then hB11 hb12 hB11.size
            clear hb12 hB11 T11
            go_wp2_with fail
            refine (comp_any _ _ _ T12.out).mono ?_
            rintro e w13 ⟨rfl, hb13⟩
            have T13 := Lib.hid (Tab.below T12.out hb13)
            have hB13 := below_then hB12 hb13 hB12.size
            clear hb13 hB12 T12
            go_wp2_with fail
            refine (comp_any _ _ _ T13.out).mono ?_
            rintro e w14 ⟨rfl, hb14⟩
            have T14 := Lib.hid (Tab.below T13.out hb14)
            have hB14 := below_then hB13 hb14 hB13.size
            clear hb14 hB13 T13
            go_wp2
            go_ret
            exact ⟨rfl, hB14⟩

end Go.Proofs.YticncaomingnpaaDoor
