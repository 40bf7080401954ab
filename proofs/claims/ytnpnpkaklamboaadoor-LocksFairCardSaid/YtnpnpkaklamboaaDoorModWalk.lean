/- The walks of package modes over its table, and of the document's own tables. -/
import Derived.Test.YtnpnpkaklamboaaDoorProg
import Derived.Test.YtnpnpkaklamboaaDoorModPlain
import Derived.WalkKit
import Derived.WalkSpells
import Derived.WalkLawsBesides
import Derived.Lib.Hide
import Derived.Deep.QuietTactic
import Derived.BigQuiet
set_option linter.unusedVariables false
set_option linter.unusedSimpArgs false
namespace Go.Proofs.YtnpnpkaklamboaaDoor
open Go.RowKit

/-- The package's table lies in block 0. -/
def Tab (w : World) : Prop := 0 < w.heap.size ∧ ∀ i, i < 7 → w.cell? ⟨0, i, none⟩ = some (.int .i64 (Md.rt i))
theorem Tab.below {w w' : World} (h : Tab w) (hb : Below w.heap.size w w') : Tab w' :=
  ⟨Nat.lt_of_lt_of_le h.1 hb.size, fun i hi => by rw [hb.cell (p := ⟨0, i, none⟩) h.1]; exact h.2 i hi⟩

set_option maxHeartbeats 400000 in
theorem isMode_any (m : Int) (w : World) :
    Calls Tryd.prog 30 #[.int .i64 m] w fun e w' => e = .returned (.bool (Md.inR m)) ∧ w = w' := by
  by_cases h1 : 0 ≤ m
  · by_cases h2 : m ≤ 6
    · rw [show Md.inR m = true by simp [Md.inR]; omega]
      go_enter Tryd.func30, Tryd.ntmps30
      go_wp2
      go_ret
      exact ⟨rfl, rfl⟩
    · rw [show Md.inR m = false by simp [Md.inR]; omega]
      go_enter Tryd.func30, Tryd.ntmps30
      go_wp2
      go_ret
      exact ⟨rfl, rfl⟩
  · rw [show Md.inR m = false by simp [Md.inR]; omega]
    go_enter Tryd.func30, Tryd.ntmps30
    go_wp2
    go_ret
    exact ⟨rfl, rfl⟩

set_option maxHeartbeats 2000000 in
theorem clash_any (x y : Int) (w : World) :
    Calls Tryd.prog 31 #[.int .i64 x, .int .i64 y] w fun e w' => e = .returned (.bool (Md.clash x y)) ∧ w = w' := by
  unfold Md.clash
  rcases h1 : (bits .and .i64 x 2 != 0) <;> rcases h2 : (bits .and .i64 y 4 != 0) <;> rcases h3 : (bits .and .i64 x 8 != 0) <;> rcases h4 : (bits .and .i64 y 8 != 0) <;> rcases h5 : (bits .and .i64 x 16 != 0) <;> rcases h6 : (bits .and .i64 y 1 != 0)
  all_goals
    simp only [Bool.and_self, Bool.or_self, Bool.and_false, Bool.and_true, Bool.or_false, Bool.or_true, Bool.true_and, Bool.false_and, Bool.true_or, Bool.false_or]
    go_enter Tryd.func31, Tryd.ntmps31
    go_wp2
    go_ret
    exact ⟨rfl, rfl⟩

set_option maxHeartbeats 400000 in
theorem comp_in (a b : Nat) (w : World) (ha : a < 7) (hb : b < 7) (hT : Tab w) :
    Calls Tryd.prog 15 #[.int .i64 a, .int .i64 b] w fun e w' => e = .returned (.bool (Md.comp a b)) ∧ Below w.heap.size w w' := by
  have hall := Md.clash_all ⟨a, ha⟩ ⟨b, hb⟩
  simp only at hall
  have ca := hT.2 a ha
  have cb := hT.2 b hb
  have ia := Md.inR_nat ha
  have ib := Md.inR_nat hb
  rw [Md.comp_nat ha hb, ← hall]
  generalize Md.rt a = x at *
  generalize Md.rt b = y at *
  clear hT hall
  have IA := Lib.hid ia; have IB := Lib.hid ib; clear ia ib
  have i1 := fun w => isMode_any a w
  have i2 := fun w => isMode_any b w
  rw [IA.out] at i1
  rw [IB.out] at i2
  have I1 := Lib.hid i1; have I2 := Lib.hid i2; clear i1 i2 IA IB
  rcases hp : Md.clash x y <;> rcases hq : Md.clash y x
  all_goals
    simp only [Bool.not_false, Bool.not_true, Bool.and_self, Bool.and_false, Bool.false_and]
    go_enter Tryd.func15, Tryd.ntmps15
    go_wp2_with fail
    refine (I1.out _).mono ?_
    rintro e w' ⟨rfl, rfl⟩
    go_wp2_with fail
    refine (I2.out _).mono ?_
    rintro e w' ⟨rfl, rfl⟩
    go_wp2_with fail
    go_quiet ((go_at_call 31; exact Calls.quiet_of_same ((clash_any _ _ _).mono fun _ _ ⟨a, b⟩ => ⟨a, b.symm⟩)))
    go_wp2
    go_ret
    exact ⟨rfl, below_drewN (Below.refl _ _) _⟩

theorem inR_split (a b : Int) : (Md.inR a = false ∨ (Md.inR a = true ∧ Md.inR b = false)) ∨ (∃ m n : Nat, m < 7 ∧ n < 7 ∧ a = m ∧ b = n) := by
  rcases ha : Md.inR a
  · exact .inl (.inl rfl)
  · rcases hb : Md.inR b
    · exact .inl (.inr ⟨rfl, rfl⟩)
    · obtain ⟨m, h1, h2⟩ := Md.inR_yes ha
      obtain ⟨n, h3, h4⟩ := Md.inR_yes hb
      exact .inr ⟨m, n, h1, h3, h2, h4⟩

set_option maxHeartbeats 400000 in
theorem comp_outw (a b : Int) (w : World) (h : Md.inR a = false ∨ (Md.inR a = true ∧ Md.inR b = false)) :
    Calls Tryd.prog 15 #[.int .i64 a, .int .i64 b] w fun e w' => e = .returned (.bool false) ∧ Below w.heap.size w w' := by
  rcases h with h | ⟨h, h'⟩
  · have i1 := fun w => isMode_any a w
    rw [h] at i1
    have I1 := Lib.hid i1; clear i1 h
    go_enter Tryd.func15, Tryd.ntmps15
    go_wp2_with fail
    refine (I1.out _).mono ?_
    rintro e w' ⟨rfl, rfl⟩
    go_wp2
    go_ret
    exact ⟨rfl, Below.refl _ _⟩
  · have i1 := fun w => isMode_any a w
    have i2 := fun w => isMode_any b w
    rw [h] at i1
    rw [h'] at i2
    have I1 := Lib.hid i1; have I2 := Lib.hid i2; clear i1 i2 h h'
    go_enter Tryd.func15, Tryd.ntmps15
    go_wp2_with fail
    refine (I1.out _).mono ?_
    rintro e w' ⟨rfl, rfl⟩
    go_wp2_with fail
    refine (I2.out _).mono ?_
    rintro e w' ⟨rfl, rfl⟩
    go_wp2
    go_ret
    exact ⟨rfl, Below.refl _ _⟩

theorem out_or {a b : Int} (h : Md.inR a = false ∨ (Md.inR a = true ∧ Md.inR b = false)) : Md.inR a = false ∨ Md.inR b = false := by
  rcases h with h | ⟨_, h⟩
  · exact .inl h
  · exact .inr h
theorem comp_any (a b : Int) (w : World) (hT : Tab w) :
    Calls Tryd.prog 15 #[.int .i64 a, .int .i64 b] w fun e w' => e = .returned (.bool (Md.comp a b)) ∧ Below w.heap.size w w' := by
  rcases inR_split a b with h | ⟨m, n, hm, hn, rfl, rfl⟩
  · rw [Md.comp_out (out_or h)]; exact comp_outw a b w h
  · exact comp_in m n w hm hn hT

set_option maxHeartbeats 400000 in
theorem join_outw (a b : Int) (w : World) (h : Md.inR a = false ∨ (Md.inR a = true ∧ Md.inR b = false)) :
    Calls Tryd.prog 18 #[.int .i64 a, .int .i64 b] w fun e w' => e = .returned (.int .i64 0) ∧ Below w.heap.size w w' := by
  rcases h with h | ⟨h, h'⟩
  · have i1 := fun w => isMode_any a w
    rw [h] at i1
    have I1 := Lib.hid i1; clear i1 h
    go_enter Tryd.func18, Tryd.ntmps18
    go_wp2_with fail
    refine (I1.out _).mono ?_
    rintro e w' ⟨rfl, rfl⟩
    go_wp2
    go_ret
    exact ⟨rfl, Below.refl _ _⟩
  · have i1 := fun w => isMode_any a w
    have i2 := fun w => isMode_any b w
    rw [h] at i1
    rw [h'] at i2
    have I1 := Lib.hid i1; have I2 := Lib.hid i2; clear i1 i2 h h'
    go_enter Tryd.func18, Tryd.ntmps18
    go_wp2_with fail
    refine (I1.out _).mono ?_
    rintro e w' ⟨rfl, rfl⟩
    go_wp2_with fail
    refine (I2.out _).mono ?_
    rintro e w' ⟨rfl, rfl⟩
    go_wp2
    go_ret
    exact ⟨rfl, Below.refl _ _⟩

set_option maxHeartbeats 1000000 in
theorem join_in (a b : Nat) (w : World) (ha : a < 7) (hb : b < 7) (hT : Tab w) :
    Calls Tryd.prog 18 #[.int .i64 a, .int .i64 b] w fun e w' => e = .returned (.int .i64 (Md.join a b)) ∧ Below w.heap.size w w' := by
  obtain ⟨⟨j, hj⟩, hall⟩ := Md.join_all ⟨a, ha⟩ ⟨b, hb⟩
  simp only at hall
  obtain ⟨h1, h2, h3⟩ := hall
  have h3' : ∀ m : Nat, m < j → (bits .and .i64 (Md.rt m) (bits .or .i64 (Md.rt a) (Md.rt b)) == bits .or .i64 (Md.rt a) (Md.rt b)) = false :=
    fun m hm => h3 ⟨m, by omega⟩ (by simpa [Fin.lt_def] using hm)
  have ca := hT.2 a ha
  have cb := hT.2 b hb
  have hc : ∀ i, i < 7 → w.cell? ⟨0, i, none⟩ = some (.int .i64 (Md.rt i)) := hT.2
  rw [Md.join_nat ha hb, h1]
  clear h3 h1 hT
  have i1 := fun w => isMode_any a w
  have i2 := fun w => isMode_any b w
  rw [Md.inR_nat ha] at i1
  rw [Md.inR_nat hb] at i2
  have I1 := Lib.hid i1; have I2 := Lib.hid i2; have HC := Lib.hid hc; have H2 := Lib.hid h2; have H3 := Lib.hid h3'; clear i1 i2 hc h2 h3'
  generalize Md.rt a = x at *
  generalize Md.rt b = y at *
  go_enter Tryd.func18, Tryd.ntmps18
  go_wp2_with fail
  refine (I1.out _).mono ?_
  rintro e w' ⟨rfl, rfl⟩
  go_wp2_with fail
  refine (I2.out _).mono ?_
  rintro e w' ⟨rfl, rfl⟩
  go_wp2_with fail
  go_quiet (fail)
  go_wp2
  go_loop [22] (fun i => ∃ k : Nat, k ≤ j ∧ i = .int .i64 k) (fun i => 7 - (intOf i).toNat)
  case atStart => exact ⟨0, Nat.zero_le _, rfl⟩
  case round =>
    obtain ⟨k, hk, rfl⟩ := hrel
    have ck := HC.out k (by omega)
    by_cases hlt : k < j
    · have ht := H3.out k hlt
      clear ca cb
      go_wp2
      go_round
      case rel => exact ⟨k + 1, by omega, by go_num⟩
      case measure => simp [intOf]; omega
    · obtain rfl : j = k := by omega
      have ht := H2.out
      clear ca cb
      go_wp2
      go_ret
      exact ⟨rfl, below_drewN (Below.refl _ _) _⟩

theorem join_any (a b : Int) (w : World) (hT : Tab w) :
    Calls Tryd.prog 18 #[.int .i64 a, .int .i64 b] w fun e w' => e = .returned (.int .i64 (Md.join a b)) ∧ Below w.heap.size w w' := by
  rcases inR_split a b with h | ⟨m, n, hm, hn, rfl, rfl⟩
  · rw [Md.join_out (out_or h)]; exact join_outw a b w h
  · exact join_in m n w hm hn hT

end Go.Proofs.YtnpnpkaklamboaaDoor
