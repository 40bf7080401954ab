/- modes.Join, modes.Covers: for the programs that don't call the whole of package modes. -/
import Derived.Test.YtokghbppdmlfkaaDoorPlnMod
set_option linter.unusedVariables false
set_option linter.unusedSimpArgs false
namespace Go.Proofs.YtokghbppdmlfkaaDoor
open Go.RowKit

theorem inR_split (a b : Int) : (Md.inR a = false ∨ (Md.inR a = true ∧ Md.inR b = false)) ∨ (∃ m n : Nat, m < 7 ∧ n < 7 ∧ a = m ∧ b = n) := by
  rcases ha : Md.inR a
  · exact .inl (.inl rfl)
  · rcases hb : Md.inR b
    · exact .inl (.inr ⟨rfl, rfl⟩)
    · obtain ⟨m, h1, h2⟩ := Md.inR_yes ha
      obtain ⟨n, h3, h4⟩ := Md.inR_yes hb
      exact .inr ⟨m, n, h1, h3, h2, h4⟩

theorem out_or {a b : Int} (h : Md.inR a = false ∨ (Md.inR a = true ∧ Md.inR b = false)) : Md.inR a = false ∨ Md.inR b = false := by
  rcases h with h | ⟨_, h⟩
  · exact .inl h
  · exact .inr h
set_option maxHeartbeats 400000 in
theorem join_outw (a b : Int) (w : World) (h : Md.inR a = false ∨ (Md.inR a = true ∧ Md.inR b = false)) :
    Calls Tryd.prog 9 #[.int .i64 a, .int .i64 b] w fun e w' => e = .returned (.int .i64 0) ∧ ∃ n, w' = w.drewN n := by
  rcases h with h | ⟨h, h'⟩
  · have i1 := fun w => isMode_any a w
    rw [h] at i1
    have I1 := Lib.hid i1; clear i1 h
    go_enter Tryd.func9, Tryd.ntmps9
    go_wp2_with fail
    refine (I1.out _).mono ?_
    rintro e w' ⟨rfl, rfl⟩
    go_wp2
    go_ret
    exact ⟨rfl, ⟨0, rfl⟩⟩
  · have i1 := fun w => isMode_any a w
    have i2 := fun w => isMode_any b w
    rw [h] at i1
    rw [h'] at i2
    have I1 := Lib.hid i1; have I2 := Lib.hid i2; clear i1 i2 h h'
    go_enter Tryd.func9, Tryd.ntmps9
    go_wp2_with fail
    refine (I1.out _).mono ?_
    rintro e w' ⟨rfl, rfl⟩
    go_wp2_with fail
    refine (I2.out _).mono ?_
    rintro e w' ⟨rfl, rfl⟩
    go_wp2
    go_ret
    exact ⟨rfl, ⟨0, rfl⟩⟩

set_option maxHeartbeats 1000000 in
theorem join_in (a b : Nat) (w : World) (ha : a < 7) (hb : b < 7) (hT : Tab w) :
    Calls Tryd.prog 9 #[.int .i64 a, .int .i64 b] w fun e w' => e = .returned (.int .i64 (Md.join a b)) ∧ ∃ n, w' = w.drewN n := by
  obtain ⟨⟨j, hj⟩, hall⟩ := Md.join_all ⟨a, ha⟩ ⟨b, hb⟩
  simp only at hall
  obtain ⟨h1, h2, h3⟩ := hall
  have h3' : ∀ m : Nat, m < j → (bits .and .i64 (Md.rt m) (bits .or .i64 (Md.rt a) (Md.rt b)) == bits .or .i64 (Md.rt a) (Md.rt b)) = false :=
    fun m hm => h3 ⟨m, by omega⟩ (by simpa [Fin.lt_def] using hm)
  have ca := hT.2 a ha
  have cb := hT.2 b hb
  have hc : ∀ i, i < 7 → w.cell? ⟨0, i, none⟩ = some (.int .i64 (Md.rt i)) := hT.2
  rw [Md.join_nat ha hb, h1]
  clear h3 h1 hT
  have i1 := fun w => isMode_any a w
  have i2 := fun w => isMode_any b w
  rw [Md.inR_nat ha] at i1
  rw [Md.inR_nat hb] at i2
  have I1 := Lib.hid i1; have I2 := Lib.hid i2; have HC := Lib.hid hc; have H2 := Lib.hid h2; have H3 := Lib.hid h3'; clear i1 i2 hc h2 h3'
  generalize Md.rt a = x at *
  generalize Md.rt b = y at *
  go_enter Tryd.func9, Tryd.ntmps9
  go_wp2_with fail
  refine (I1.out _).mono ?_
  rintro e w' ⟨rfl, rfl⟩
  go_wp2_with fail
  refine (I2.out _).mono ?_
  rintro e w' ⟨rfl, rfl⟩
  go_wp2_with fail
  go_quiet (fail)
  go_wp2
  go_loop [22] (fun i => ∃ k : Nat, k ≤ j ∧ i = .int .i64 k) (fun i => 7 - (intOf i).toNat)
  case atStart => exact ⟨0, Nat.zero_le _, rfl⟩
  case round =>
    obtain ⟨k, hk, rfl⟩ := hrel
    have ck := HC.out k (by omega)
    by_cases hlt : k < j
    · have ht := H3.out k hlt
      clear ca cb
      go_wp2
      go_round
      case rel => exact ⟨k + 1, by omega, by go_num⟩
      case measure => simp [intOf]; omega
    · obtain rfl : j = k := by omega
      have ht := H2.out
      clear ca cb
      go_wp2
      go_ret
      exact ⟨rfl, ⟨_, rfl⟩⟩

theorem join_any (a b : Int) (w : World) (hT : Tab w) :
    Calls Tryd.prog 9 #[.int .i64 a, .int .i64 b] w fun e w' => e = .returned (.int .i64 (Md.join a b)) ∧ ∃ n, w' = w.drewN n := by
  rcases inR_split a b with h | ⟨m, n, hm, hn, rfl, rfl⟩
  · rw [Md.join_out (out_or h)]; exact join_outw a b w h
  · exact join_in m n w hm hn hT

set_option maxHeartbeats 400000 in
theorem cov_any (a b : Int) (w : World) (hT : Tab w) :
    Calls Tryd.prog 10 #[.int .i64 a, .int .i64 b] w fun e w' => e = .returned (.bool (Md.cov a b)) ∧ ∃ n, w' = w.drewN n := by
  have i1 := fun w => isMode_any a w
  have i2 := fun w => isMode_any b w
  have c := join_any a b w hT
  rcases h1 : Md.inR a
  · rw [h1] at i1
    rw [Md.cov_out (.inl h1)]
    have I1 := Lib.hid i1; clear i1 i2 c h1
    go_enter Tryd.func10, Tryd.ntmps10
    go_wp2_with fail
    refine (I1.out _).mono ?_
    rintro e w' ⟨rfl, rfl⟩
    go_wp2
    go_ret
    exact ⟨rfl, ⟨0, rfl⟩⟩
  · rw [h1] at i1
    rcases h2 : Md.inR b
    · rw [h2] at i2
      rw [Md.cov_out (.inr h2)]
      have I1 := Lib.hid i1; have I2 := Lib.hid i2; clear i1 i2 c h1 h2
      go_enter Tryd.func10, Tryd.ntmps10
      go_wp2_with fail
      refine (I1.out _).mono ?_
      rintro e w' ⟨rfl, rfl⟩
      go_wp2_with fail
      refine (I2.out _).mono ?_
      rintro e w' ⟨rfl, rfl⟩
      go_wp2
      go_ret
      exact ⟨rfl, ⟨0, rfl⟩⟩
    · rw [h2] at i2
      have e : Md.cov a b = (Md.join a b == a) := by unfold Md.cov; rw [h1, h2]; simp
      rw [e]
      have I1 := Lib.hid i1; have I2 := Lib.hid i2; have C := Lib.hid c; clear i1 i2 c h1 h2 e hT
      generalize Md.join a b = j at *
      rcases h : (j == a)
      all_goals
        go_enter Tryd.func10, Tryd.ntmps10
        go_wp2_with fail
        refine (I1.out _).mono ?_
        rintro e w' ⟨rfl, rfl⟩
        go_wp2_with fail
        refine (I2.out _).mono ?_
        rintro e w' ⟨rfl, rfl⟩
        go_wp2_with fail
        refine C.out.mono ?_
        rintro e w1 ⟨rfl, nn, rfl⟩
        go_wp2
        go_ret
        exact ⟨rfl, _, rfl⟩

set_option maxHeartbeats 400000 in
theorem abs_any (a : Int) (w : World) (hT : Tab w) :
    Calls Tryd.prog 11 #[.int .i64 a] w fun e w' => e = .returned (.int .i64 (Md.abv a)) ∧ w = w' := by
  have i1 := fun w => isMode_any a w
  rcases h1 : Md.inR a
  · rw [h1] at i1
    rw [Md.abv_out h1]
    have I1 := Lib.hid i1; clear i1 h1
    go_enter Tryd.func11, Tryd.ntmps11
    go_wp2_with fail
    refine (I1.out _).mono ?_
    rintro e w' ⟨rfl, rfl⟩
    go_wp2
    go_ret
    exact ⟨rfl, rfl⟩
  · rw [h1] at i1
    obtain ⟨n, hn, rfl⟩ := Md.inR_yes h1
    have I1 := Lib.hid i1; clear i1 h1
    by_cases h0 : n = 0
    · subst h0
      rw [show Md.abv ((0 : Nat) : Int) = 0 from rfl]
      go_enter Tryd.func11, Tryd.ntmps11
      go_wp2_with fail
      refine (I1.out _).mono ?_
      rintro e w' ⟨rfl, rfl⟩
      go_wp2
      go_ret
      exact ⟨rfl, rfl⟩
    · have hz : ((n : Int) == 0) = false := by simp; omega
      have hv := Md.abv_all ⟨n, hn⟩ h0
      simp only at hv
      have ca := hT.2 n hn
      rw [Md.abv_nat hn, ← hv]
      clear hv hT h0
      generalize Md.rt n = x at *
      rcases h : (bits .and .i64 x 10 != 0)
      all_goals
        simp only [Bool.false_eq_true, if_true, if_false]
        go_enter Tryd.func11, Tryd.ntmps11
        go_wp2_with fail
        refine (I1.out _).mono ?_
        rintro e w' ⟨rfl, rfl⟩
        go_wp2
        go_ret
        exact ⟨rfl, rfl⟩

theorem Tab.drew {w : World} (h : Tab w) (n : Nat) : Tab (w.drewN n) := h.below (below_drewN (Below.refl _ _) _)
end Go.Proofs.YtokghbppdmlfkaaDoor
