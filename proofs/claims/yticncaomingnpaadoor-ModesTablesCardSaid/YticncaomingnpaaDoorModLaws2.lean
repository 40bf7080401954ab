/- The walks of ModesOrder and ModesWeaker. -/
import Derived.Test.YticncaomingnpaaDoorModLaws
set_option linter.unusedVariables false
set_option linter.unusedSimpArgs false
namespace Go.Proofs.YticncaomingnpaaDoor
open Go.RowKit

set_option maxHeartbeats 1000000 in
theorem walk_ModesOrder (a : Int) (b : Int) (c : Int) (w : World) (hT : Tab w) (_ : -9223372036854775808 ≤ a) (_ : a ≤ 9223372036854775807) (_ : -9223372036854775808 ≤ b) (_ : b ≤ 9223372036854775807) (_ : -9223372036854775808 ≤ c) (_ : c ≤ 9223372036854775807) :
    Calls Tryd.prog 5 #[.int .i64 a, .int .i64 b, .int .i64 c] w fun e w' => e = .returned (.bool true) ∧ Below w.heap.size w w' := by
  have HT := Lib.hid hT; clear hT
  rcases ha : Md.inR a
  · have f1 : Md.cov a b = false := Md.cov_out (.inl ha)
    have f2 : Md.cov b a = false := Md.cov_out (.inr ha)
    have f3 : Md.join a b = 0 := Md.join_out (.inl ha)
    have f4 : Md.comp a b = false := Md.comp_out (.inl ha)
    go_enter Tryd.func5, Tryd.ntmps5
    have hB0 : Below w.heap.size w w := Below.refl _ _
    go_wp2_with fail
    refine (awake_any _ HT.out).mono ?_
    rintro e w1 ⟨rfl, hb1⟩
    have T1 := Lib.hid (Tab.below HT.out hb1)
    have hB1 := below_then hB0 hb1 hB0.size
    clear hb1 hB0
    go_wp2_with fail
    refine (rMode_any _ _).mono ?_
    rintro e w' ⟨rfl, rfl⟩
    go_wp2_with fail
    refine (cov_any _ _ _ T1.out).mono ?_
    rintro e w2 ⟨rfl, hb2⟩
    have T2 := Lib.hid (Tab.below T1.out hb2)
    have hB2 := below_then hB1 hb2 hB1.size
    clear hb2 hB1 T1
    go_wp2_with fail
    refine (cov_any _ _ _ T2.out).mono ?_
    rintro e w3 ⟨rfl, hb3⟩
    have T3 := Lib.hid (Tab.below T2.out hb3)
    have hB3 := below_then hB2 hb3 hB2.size
    clear hb3 hB2 T2
    go_wp2_with fail
    refine (join_any _ _ _ T3.out).mono ?_
    rintro e w4 ⟨rfl, hb4⟩
    have T4 := Lib.hid (Tab.below T3.out hb4)
    have hB4 := below_then hB3 hb4 hB3.size
    clear hb4 hB3 T3
    go_wp2_with fail
    refine (comp_any _ _ _ T4.out).mono ?_
    rintro e w5 ⟨rfl, hb5⟩
    have T5 := Lib.hid (Tab.below T4.out hb5)
    have hB5 := below_then hB4 hb5 hB4.size
    clear hb5 hB4 T4
    go_wp2
    go_ret
    exact ⟨rfl, hB5⟩
  · have hra : Md.cov a a = true := by
      obtain ⟨m, hm, rfl⟩ := Md.inR_yes ha
      exact (Md.order3 ⟨m, hm⟩ ⟨m, hm⟩ ⟨m, hm⟩).1
    rcases hab : Md.cov a b
    · go_enter Tryd.func5, Tryd.ntmps5
      have hB0 : Below w.heap.size w w := Below.refl _ _
      go_wp2_with fail
      refine (awake_any _ HT.out).mono ?_
      rintro e w1 ⟨rfl, hb1⟩
      have T1 := Lib.hid (Tab.below HT.out hb1)
      have hB1 := below_then hB0 hb1 hB0.size
      clear hb1 hB0
      go_wp2_with fail
      refine (rMode_any _ _).mono ?_
      rintro e w' ⟨rfl, rfl⟩
      go_wp2_with fail
      refine (cov_any _ _ _ T1.out).mono ?_
      rintro e w2 ⟨rfl, hb2⟩
      have T2 := Lib.hid (Tab.below T1.out hb2)
      have hB2 := below_then hB1 hb2 hB1.size
      clear hb2 hB1 T1
      go_wp2_with fail
      refine (cov_any _ _ _ T2.out).mono ?_
      rintro e w3 ⟨rfl, hb3⟩
      have T3 := Lib.hid (Tab.below T2.out hb3)
      have hB3 := below_then hB2 hb3 hB2.size
      clear hb3 hB2 T2
      go_wp2_with fail
      refine (cov_any _ _ _ T3.out).mono ?_
      rintro e w4 ⟨rfl, hb4⟩
      have T4 := Lib.hid (Tab.below T3.out hb4)
      have hB4 := below_then hB3 hb4 hB3.size
      clear hb4 hB3 T3
      go_wp2
      go_ret
      exact ⟨rfl, hB4⟩
    · have hb : Md.inR b = true := by
        rcases h : Md.inR b
        · rw [Md.cov_out (.inr h)] at hab; cases hab
        · rfl
      rcases hba : Md.cov b a
      · rcases hbc : Md.cov b c
        · go_enter Tryd.func5, Tryd.ntmps5
          have hB0 : Below w.heap.size w w := Below.refl _ _
          go_wp2_with fail
          refine (awake_any _ HT.out).mono ?_
          rintro e w1 ⟨rfl, hb1⟩
          have T1 := Lib.hid (Tab.below HT.out hb1)
          have hB1 := below_then hB0 hb1 hB0.size
          clear hb1 hB0
          go_wp2_with fail
          refine (rMode_any _ _).mono ?_
          rintro e w' ⟨rfl, rfl⟩
          go_wp2_with fail
          refine (cov_any _ _ _ T1.out).mono ?_
          rintro e w2 ⟨rfl, hb2⟩
          have T2 := Lib.hid (Tab.below T1.out hb2)
          have hB2 := below_then hB1 hb2 hB1.size
          clear hb2 hB1 T1
          go_wp2_with fail
          refine (cov_any _ _ _ T2.out).mono ?_
          rintro e w3 ⟨rfl, hb3⟩
          have T3 := Lib.hid (Tab.below T2.out hb3)
          have hB3 := below_then hB2 hb3 hB2.size
          clear hb3 hB2 T2
          go_wp2_with fail
          refine (cov_any _ _ _ T3.out).mono ?_
          rintro e w4 ⟨rfl, hb4⟩
          have T4 := Lib.hid (Tab.below T3.out hb4)
          have hB4 := below_then hB3 hb4 hB3.size
          clear hb4 hB3 T3
          go_wp2_with fail
          refine (cov_any _ _ _ T4.out).mono ?_
          rintro e w5 ⟨rfl, hb5⟩
          have T5 := Lib.hid (Tab.below T4.out hb5)
          have hB5 := below_then hB4 hb5 hB4.size
          clear hb5 hB4 T4
          go_wp2_with fail
          refine (cov_any _ _ _ T5.out).mono ?_
          rintro e w6 ⟨rfl, hb6⟩
          have T6 := Lib.hid (Tab.below T5.out hb6)
          have hB6 := below_then hB5 hb6 hB5.size
          clear hb6 hB5 T5
          go_wp2
          go_ret
          exact ⟨rfl, hB6⟩
        · have hac : Md.cov a c = true := by
            have hc : Md.inR c = true := by
              rcases h : Md.inR c
              · rw [Md.cov_out (.inr h)] at hbc; cases hbc
              · rfl
            obtain ⟨m, hm, rfl⟩ := Md.inR_yes ha
            obtain ⟨n, hn, rfl⟩ := Md.inR_yes hb
            obtain ⟨k, hk, rfl⟩ := Md.inR_yes hc
            have := (Md.order3 ⟨m, hm⟩ ⟨n, hn⟩ ⟨k, hk⟩).2.2
            simp only at this
            rw [hab, hbc] at this
            simpa using this
          go_enter Tryd.func5, Tryd.ntmps5
          have hB0 : Below w.heap.size w w := Below.refl _ _
          go_wp2_with fail
          refine (awake_any _ HT.out).mono ?_
          rintro e w1 ⟨rfl, hb1⟩
          have T1 := Lib.hid (Tab.below HT.out hb1)
          have hB1 := below_then hB0 hb1 hB0.size
          clear hb1 hB0
          go_wp2_with fail
          refine (rMode_any _ _).mono ?_
          rintro e w' ⟨rfl, rfl⟩
          go_wp2_with fail
          refine (cov_any _ _ _ T1.out).mono ?_
          rintro e w2 ⟨rfl, hb2⟩
          have T2 := Lib.hid (Tab.below T1.out hb2)
          have hB2 := below_then hB1 hb2 hB1.size
          clear hb2 hB1 T1
          go_wp2_with fail
          refine (cov_any _ _ _ T2.out).mono ?_
          rintro e w3 ⟨rfl, hb3⟩
          have T3 := Lib.hid (Tab.below T2.out hb3)
          have hB3 := below_then hB2 hb3 hB2.size
          clear hb3 hB2 T2
          go_wp2_with fail
          refine (cov_any _ _ _ T3.out).mono ?_
          rintro e w4 ⟨rfl, hb4⟩
          have T4 := Lib.hid (Tab.below T3.out hb4)
          have hB4 := below_then hB3 hb4 hB3.size
          clear hb4 hB3 T3
          go_wp2_with fail
          refine (cov_any _ _ _ T4.out).mono ?_
          rintro e w5 ⟨rfl, hb5⟩
          have T5 := Lib.hid (Tab.below T4.out hb5)
          have hB5 := below_then hB4 hb5 hB4.size
          clear hb5 hB4 T4
          go_wp2_with fail
          refine (cov_any _ _ _ T5.out).mono ?_
          rintro e w6 ⟨rfl, hb6⟩
          have T6 := Lib.hid (Tab.below T5.out hb6)
          have hB6 := below_then hB5 hb6 hB5.size
          clear hb6 hB5 T5
          go_wp2_with fail
          refine (cov_any _ _ _ T6.out).mono ?_
          rintro e w7 ⟨rfl, hb7⟩
          have T7 := Lib.hid (Tab.below T6.out hb7)
          have hB7 := below_then hB6 hb7 hB6.size
          clear hb7 hB6 T6
          go_wp2
          go_ret
          exact ⟨rfl, hB7⟩
      · have hne : (a != b) = false := by
          obtain ⟨m, hm, rfl⟩ := Md.inR_yes ha
          obtain ⟨n, hn, rfl⟩ := Md.inR_yes hb
          have := (Md.order3 ⟨m, hm⟩ ⟨n, hn⟩ ⟨m, hm⟩).2.1
          simp only at this
          rw [hab, hba] at this
          simpa using this
        rcases hbc : Md.cov b c
        · go_enter Tryd.func5, Tryd.ntmps5
          have hB0 : Below w.heap.size w w := Below.refl _ _
          go_wp2_with fail
          refine (awake_any _ HT.out).mono ?_
          rintro e w1 ⟨rfl, hb1⟩
          have T1 := Lib.hid (Tab.below HT.out hb1)
          have hB1 := below_then hB0 hb1 hB0.size
          clear hb1 hB0
          go_wp2_with fail
          refine (rMode_any _ _).mono ?_
          rintro e w' ⟨rfl, rfl⟩
          go_wp2_with fail
          refine (cov_any _ _ _ T1.out).mono ?_
          rintro e w2 ⟨rfl, hb2⟩
          have T2 := Lib.hid (Tab.below T1.out hb2)
          have hB2 := below_then hB1 hb2 hB1.size
          clear hb2 hB1 T1
          go_wp2_with fail
          refine (cov_any _ _ _ T2.out).mono ?_
          rintro e w3 ⟨rfl, hb3⟩
          have T3 := Lib.hid (Tab.below T2.out hb3)
          have hB3 := below_then hB2 hb3 hB2.size
          clear hb3 hB2 T2
          go_wp2_with fail
          refine (cov_any _ _ _ T3.out).mono ?_
          rintro e w4 ⟨rfl, hb4⟩
          have T4 := Lib.hid (Tab.below T3.out hb4)
          have hB4 := below_then hB3 hb4 hB3.size
          clear hb4 hB3 T3
          go_wp2_with fail
          refine (cov_any _ _ _ T4.out).mono ?_
          rintro e w5 ⟨rfl, hb5⟩
          have T5 := Lib.hid (Tab.below T4.out hb5)
          have hB5 := below_then hB4 hb5 hB4.size
          clear hb5 hB4 T4
          go_wp2_with fail
          refine (cov_any _ _ _ T5.out).mono ?_
          rintro e w6 ⟨rfl, hb6⟩
          have T6 := Lib.hid (Tab.below T5.out hb6)
          have hB6 := below_then hB5 hb6 hB5.size
          clear hb6 hB5 T5
          go_wp2
          go_ret
          exact ⟨rfl, hB6⟩
        · have hac : Md.cov a c = true := by
            have hc : Md.inR c = true := by
              rcases h : Md.inR c
              · rw [Md.cov_out (.inr h)] at hbc; cases hbc
              · rfl
            obtain ⟨m, hm, rfl⟩ := Md.inR_yes ha
            obtain ⟨n, hn, rfl⟩ := Md.inR_yes hb
            obtain ⟨k, hk, rfl⟩ := Md.inR_yes hc
            have := (Md.order3 ⟨m, hm⟩ ⟨n, hn⟩ ⟨k, hk⟩).2.2
            simp only at this
            rw [hab, hbc] at this
            simpa using this
          go_enter Tryd.func5, Tryd.ntmps5
          have hB0 : Below w.heap.size w w := Below.refl _ _
          go_wp2_with fail
          refine (awake_any _ HT.out).mono ?_
          rintro e w1 ⟨rfl, hb1⟩
          have T1 := Lib.hid (Tab.below HT.out hb1)
          have hB1 := below_then hB0 hb1 hB0.size
          clear hb1 hB0
          go_wp2_with fail
          refine (rMode_any _ _).mono ?_
          rintro e w' ⟨rfl, rfl⟩
          go_wp2_with fail
          refine (cov_any _ _ _ T1.out).mono ?_
          rintro e w2 ⟨rfl, hb2⟩
          have T2 := Lib.hid (Tab.below T1.out hb2)
          have hB2 := below_then hB1 hb2 hB1.size
          clear hb2 hB1 T1
          go_wp2_with fail
          refine (cov_any _ _ _ T2.out).mono ?_
          rintro e w3 ⟨rfl, hb3⟩
          have T3 := Lib.hid (Tab.below T2.out hb3)
          have hB3 := below_then hB2 hb3 hB2.size
          clear hb3 hB2 T2
          go_wp2_with fail
          refine (cov_any _ _ _ T3.out).mono ?_
          rintro e w4 ⟨rfl, hb4⟩
          have T4 := Lib.hid (Tab.below T3.out hb4)
          have hB4 := below_then hB3 hb4 hB3.size
          clear hb4 hB3 T3
          go_wp2_with fail
          refine (cov_any _ _ _ T4.out).mono ?_
          rintro e w5 ⟨rfl, hb5⟩
          have T5 := Lib.hid (Tab.below T4.out hb5)
          have hB5 := below_then hB4 hb5 hB4.size
          clear hb5 hB4 T4
          go_wp2_with fail
          refine (cov_any _ _ _ T5.out).mono ?_
          rintro e w6 ⟨rfl, hb6⟩
          have T6 := Lib.hid (Tab.below T5.out hb6)
          have hB6 := below_then hB5 hb6 hB5.size
          clear hb6 hB5 T5
          go_wp2_with fail
          refine (cov_any _ _ _ T6.out).mono ?_
          rintro e w7 ⟨rfl, hb7⟩
          have T7 := Lib.hid (Tab.below T6.out hb7)
          have hB7 := below_then hB6 hb7 hB6.size
          clear hb7 hB6 T6
          go_wp2
          go_ret
          exact ⟨rfl, hB7⟩

set_option maxHeartbeats 1000000 in
theorem walk_ModesWeaker (a : Int) (b : Int) (c : Int) (w : World) (hT : Tab w) (_ : -9223372036854775808 ≤ a) (_ : a ≤ 9223372036854775807) (_ : -9223372036854775808 ≤ b) (_ : b ≤ 9223372036854775807) (_ : -9223372036854775808 ≤ c) (_ : c ≤ 9223372036854775807) :
    Calls Tryd.prog 6 #[.int .i64 a, .int .i64 b, .int .i64 c] w fun e w' => e = .returned (.bool true) ∧ Below w.heap.size w w' := by
  have HT := Lib.hid hT; clear hT
  rcases hab : Md.cov a b
  · go_enter Tryd.func6, Tryd.ntmps6
    have hB0 : Below w.heap.size w w := Below.refl _ _
    go_wp2_with fail
    refine (awake_any _ HT.out).mono ?_
    rintro e w1 ⟨rfl, hb1⟩
    have T1 := Lib.hid (Tab.below HT.out hb1)
    have hB1 := below_then hB0 hb1 hB0.size
    clear hb1 hB0
    go_wp2_with fail
    refine (cov_any _ _ _ T1.out).mono ?_
    rintro e w2 ⟨rfl, hb2⟩
    have T2 := Lib.hid (Tab.below T1.out hb2)
    have hB2 := below_then hB1 hb2 hB1.size
    clear hb2 hB1 T1
    go_wp2
    go_ret
    exact ⟨rfl, hB2⟩
  · have ha : Md.inR a = true := by
      rcases h : Md.inR a
      · rw [Md.cov_out (.inl h)] at hab; cases hab
      · rfl
    have hb : Md.inR b = true := by
      rcases h : Md.inR b
      · rw [Md.cov_out (.inr h)] at hab; cases hab
      · rfl
    have hv : Md.cov (Md.abv a) (Md.abv b) = true := by
      obtain ⟨m, hm, rfl⟩ := Md.inR_yes ha
      obtain ⟨n, hn, rfl⟩ := Md.inR_yes hb
      have := Md.weak3 ⟨m, hm⟩ ⟨n, hn⟩ ⟨m, hm⟩
      simp only at this
      rw [hab] at this
      simpa using (this.resolve_left (by simp)).2
    rcases hca : Md.comp c a
    · go_enter Tryd.func6, Tryd.ntmps6
      have hB0 : Below w.heap.size w w := Below.refl _ _
      go_wp2_with fail
      refine (awake_any _ HT.out).mono ?_
      rintro e w1 ⟨rfl, hb1⟩
      have T1 := Lib.hid (Tab.below HT.out hb1)
      have hB1 := below_then hB0 hb1 hB0.size
      clear hb1 hB0
      go_wp2_with fail
      refine (cov_any _ _ _ T1.out).mono ?_
      rintro e w2 ⟨rfl, hb2⟩
      have T2 := Lib.hid (Tab.below T1.out hb2)
      have hB2 := below_then hB1 hb2 hB1.size
      clear hb2 hB1 T1
      go_wp2_with fail
      refine (comp_any _ _ _ T2.out).mono ?_
      rintro e w3 ⟨rfl, hb3⟩
      have T3 := Lib.hid (Tab.below T2.out hb3)
      have hB3 := below_then hB2 hb3 hB2.size
      clear hb3 hB2 T2
      go_wp2_with fail
      refine (abv_any _ _ T3.out).mono ?_
      rintro e w4 ⟨rfl, hb4⟩
      have T4 := Lib.hid (Tab.below T3.out hb4)
      have hB4 := below_then hB3 hb4 hB3.size
      clear hb4 hB3 T3
      go_wp2_with fail
      refine (abv_any _ _ T4.out).mono ?_
      rintro e w5 ⟨rfl, hb5⟩
      have T5 := Lib.hid (Tab.below T4.out hb5)
      have hB5 := below_then hB4 hb5 hB4.size
      clear hb5 hB4 T4
      go_wp2_with fail
      refine (cov_any _ _ _ T5.out).mono ?_
      rintro e w6 ⟨rfl, hb6⟩
      have T6 := Lib.hid (Tab.below T5.out hb6)
      have hB6 := below_then hB5 hb6 hB5.size
      clear hb6 hB5 T5
      go_wp2
      go_ret
      exact ⟨rfl, hB6⟩
    · have hcb : Md.comp c b = true := by
        have hc : Md.inR c = true := by
          rcases h : Md.inR c
          · rw [Md.comp_out (.inl h)] at hca; cases hca
          · rfl
        obtain ⟨m, hm, rfl⟩ := Md.inR_yes ha
        obtain ⟨n, hn, rfl⟩ := Md.inR_yes hb
        obtain ⟨k, hk, rfl⟩ := Md.inR_yes hc
        have := Md.weak3 ⟨m, hm⟩ ⟨n, hn⟩ ⟨k, hk⟩
        simp only at this
        rw [hab, hca] at this
        simpa using (this.resolve_left (by simp)).1
      go_enter Tryd.func6, Tryd.ntmps6
      have hB0 : Below w.heap.size w w := Below.refl _ _
      go_wp2_with fail
      refine (awake_any _ HT.out).mono ?_
      rintro e w1 ⟨rfl, hb1⟩
      have T1 := Lib.hid (Tab.below HT.out hb1)
      have hB1 := below_then hB0 hb1 hB0.size
      clear hb1 hB0
      go_wp2_with fail
      refine (cov_any _ _ _ T1.out).mono ?_
      rintro e w2 ⟨rfl, hb2⟩
      have T2 := Lib.hid (Tab.below T1.out hb2)
      have hB2 := below_then hB1 hb2 hB1.size
      clear hb2 hB1 T1
      go_wp2_with fail
      refine (comp_any _ _ _ T2.out).mono ?_
      rintro e w3 ⟨rfl, hb3⟩
      have T3 := Lib.hid (Tab.below T2.out hb3)
      have hB3 := below_then hB2 hb3 hB2.size
      clear hb3 hB2 T2
      go_wp2_with fail
      refine (comp_any _ _ _ T3.out).mono ?_
      rintro e w4 ⟨rfl, hb4⟩
      have T4 := Lib.hid (Tab.below T3.out hb4)
      have hB4 := below_then hB3 hb4 hB3.size
      clear hb4 hB3 T3
      go_wp2_with fail
      refine (abv_any _ _ T4.out).mono ?_
      rintro e w5 ⟨rfl, hb5⟩
      have T5 := Lib.hid (Tab.below T4.out hb5)
      have hB5 := below_then hB4 hb5 hB4.size
      clear hb5 hB4 T4
      go_wp2_with fail
      refine (abv_any _ _ T5.out).mono ?_
      rintro e w6 ⟨rfl, hb6⟩
      have T6 := Lib.hid (Tab.below T5.out hb6)
      have hB6 := below_then hB5 hb6 hB5.size
      clear hb6 hB5 T5
      go_wp2_with fail
      refine (cov_any _ _ _ T6.out).mono ?_
      rintro e w7 ⟨rfl, hb7⟩
      have T7 := Lib.hid (Tab.below T6.out hb7)
      have hB7 := below_then hB6 hb7 hB6.size
      clear hb7 hB6 T6
      go_wp2
      go_ret
      exact ⟨rfl, hB7⟩

theorem tab_ModesTables (W : World) (h : W.cell? ⟨0, 0, none⟩ = some (.int .i64 0) ∧ W.cell? ⟨0, 1, none⟩ = some (.int .i64 1) ∧ W.cell? ⟨0, 2, none⟩ = some (.int .i64 3) ∧
    W.cell? ⟨0, 3, none⟩ = some (.int .i64 5) ∧ W.cell? ⟨0, 4, none⟩ = some (.int .i64 7) ∧ W.cell? ⟨0, 5, none⟩ = some (.int .i64 13) ∧ W.cell? ⟨0, 6, none⟩ = some (.int .i64 31)) : Tab W := by
  obtain ⟨h0, h1, h2, h3, h4, h5, h6⟩ := h
  refine ⟨?_, fun i hi => ?_⟩
  · rcases Nat.eq_zero_or_pos W.heap.size with g | g
    · exfalso
      unfold World.cell? at h0
      rw [Array.getElem?_eq_none (by show W.heap.size ≤ _; omega)] at h0
      cases h0
    · exact g
  · have : i = 0 ∨ i = 1 ∨ i = 2 ∨ i = 3 ∨ i = 4 ∨ i = 5 ∨ i = 6 := by omega
    rcases this with rfl | rfl | rfl | rfl | rfl | rfl | rfl <;> assumption
theorem tab_ModesJoin (W : World) (h : W.cell? ⟨0, 0, none⟩ = some (.int .i64 0) ∧ W.cell? ⟨0, 1, none⟩ = some (.int .i64 1) ∧ W.cell? ⟨0, 2, none⟩ = some (.int .i64 3) ∧
    W.cell? ⟨0, 3, none⟩ = some (.int .i64 5) ∧ W.cell? ⟨0, 4, none⟩ = some (.int .i64 7) ∧ W.cell? ⟨0, 5, none⟩ = some (.int .i64 13) ∧ W.cell? ⟨0, 6, none⟩ = some (.int .i64 31)) : Tab W := by
  obtain ⟨h0, h1, h2, h3, h4, h5, h6⟩ := h
  refine ⟨?_, fun i hi => ?_⟩
  · rcases Nat.eq_zero_or_pos W.heap.size with g | g
    · exfalso
      unfold World.cell? at h0
      rw [Array.getElem?_eq_none (by show W.heap.size ≤ _; omega)] at h0
      cases h0
    · exact g
  · have : i = 0 ∨ i = 1 ∨ i = 2 ∨ i = 3 ∨ i = 4 ∨ i = 5 ∨ i = 6 := by omega
    rcases this with rfl | rfl | rfl | rfl | rfl | rfl | rfl <;> assumption
theorem tab_ModesOrder (W : World) (h : W.cell? ⟨0, 0, none⟩ = some (.int .i64 0) ∧ W.cell? ⟨0, 1, none⟩ = some (.int .i64 1) ∧ W.cell? ⟨0, 2, none⟩ = some (.int .i64 3) ∧
    W.cell? ⟨0, 3, none⟩ = some (.int .i64 5) ∧ W.cell? ⟨0, 4, none⟩ = some (.int .i64 7) ∧ W.cell? ⟨0, 5, none⟩ = some (.int .i64 13) ∧ W.cell? ⟨0, 6, none⟩ = some (.int .i64 31)) : Tab W := by
  obtain ⟨h0, h1, h2, h3, h4, h5, h6⟩ := h
  refine ⟨?_, fun i hi => ?_⟩
  · rcases Nat.eq_zero_or_pos W.heap.size with g | g
    · exfalso
      unfold World.cell? at h0
      rw [Array.getElem?_eq_none (by show W.heap.size ≤ _; omega)] at h0
      cases h0
    · exact g
  · have : i = 0 ∨ i = 1 ∨ i = 2 ∨ i = 3 ∨ i = 4 ∨ i = 5 ∨ i = 6 := by omega
    rcases this with rfl | rfl | rfl | rfl | rfl | rfl | rfl <;> assumption
theorem tab_ModesWeaker (W : World) (h : W.cell? ⟨0, 0, none⟩ = some (.int .i64 0) ∧ W.cell? ⟨0, 1, none⟩ = some (.int .i64 1) ∧ W.cell? ⟨0, 2, none⟩ = some (.int .i64 3) ∧
    W.cell? ⟨0, 3, none⟩ = some (.int .i64 5) ∧ W.cell? ⟨0, 4, none⟩ = some (.int .i64 7) ∧ W.cell? ⟨0, 5, none⟩ = some (.int .i64 13) ∧ W.cell? ⟨0, 6, none⟩ = some (.int .i64 31)) : Tab W := by
  obtain ⟨h0, h1, h2, h3, h4, h5, h6⟩ := h
  refine ⟨?_, fun i hi => ?_⟩
  · rcases Nat.eq_zero_or_pos W.heap.size with g | g
    · exfalso
      unfold World.cell? at h0
      rw [Array.getElem?_eq_none (by show W.heap.size ≤ _; omega)] at h0
      cases h0
    · exact g
  · have : i = 0 ∨ i = 1 ∨ i = 2 ∨ i = 3 ∨ i = 4 ∨ i = 5 ∨ i = 6 := by omega
    rcases this with rfl | rfl | rfl | rfl | rfl | rfl | rfl <;> assumption

end Go.Proofs.YticncaomingnpaaDoor
