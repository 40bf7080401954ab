/- The walk of octet.Num. -/
import Derived.Test.YtgafajbdmegfgaaGreatProg
import Derived.Test.YtgafajbdmegfgaaGreatOctPlain
import Derived.WalkKit
import Derived.WalkSpells
import Derived.WalkLawsBesides
import Derived.Lib.Hide
set_option linter.unusedVariables false
set_option linter.unusedSimpArgs false
namespace Go.Proofs.YtgafajbdmegfgaaGreat
open Go.RowKit

theorem Tryz.info5 : (Tryz.prog.info? 5).map (fun i => (i.zero, i.size, i.bytes)) = some (some (.int .u8 0), 1, 1) := by kernel_rfl

set_option maxHeartbeats 400000 in
theorem num_bad (n width : Int) (w : World) (h : width < 1 ∨ 8 < width) :
    Calls Tryz.prog 53 #[.int .u64 n, .int .i64 width] w fun e w' => e = .returned (.tuple #[.string ⟨#[]⟩, .int .i64 1]) ∧ w = w' := by
  rcases h with h | h
  · go_enter Tryz.func53, Tryz.ntmps53
    go_wp2
    go_ret2
    exact ⟨rfl, rfl⟩
  · have h' : ¬ width < 1 := by omega
    go_enter Tryz.func53, Tryz.ntmps53
    go_wp2
    go_ret2
    exact ⟨rfl, rfl⟩

set_option maxHeartbeats 400000 in
theorem num_fits (n width : Nat) (w : World) (h1 : 1 ≤ width) (h2 : width ≤ 8) (hn : n < 18446744073709551616) (hz : Oct.rest n width = 0) :
    Calls Tryz.prog 53 #[.int .u64 n, .int .i64 width] w fun e w' => e = .returned (.tuple #[.string (Oct.str n width), .int .i64 0]) ∧ w.alloc (.cells (Oct.cells n width width) 5) = w' := by
  have Hn := Lib.hid hn; clear hn
  have Hz := Lib.hid hz; clear hz
  obtain ⟨i0, hi, hz0, hz1, hz2⟩ := info_parts Tryz.info5
  have hmk := fun wx => run_make (P := Tryz.prog) wx 63 5 i0 (.int .u8 0) Tryz.underlying63 hi hz0 .i64 .i64 width width (by omega) (by omega) (by rw [hz2]; omega) (by omega)
  simp only [hz1, Nat.mul_one, Value.cells, Int.toNat_natCast, Oct.cells_start n width] at hmk
  clear hi hz0 hz1 hz2
  have hsz := Oct.cells_size n width
  have hst := fun wx => Oct.run_cells (P := Tryz.prog) wx 63 9 5 n width width Tryz.underlying63 Tryz.underlying5 Tryz.underlying9
  go_enter Tryz.func53, Tryz.ntmps53
  go_wp2
  go_loopw [0, 17] (fun a i wr => ∃ k : Nat, k ≤ width ∧ i = .int .i64 k ∧ a = .int .u64 (Oct.rest n k : Nat) ∧ wr = w.alloc (.cells (Oct.cells n width k) 5)) (fun _ i _ => width - (RowKit.intOf i).toNat)
  case atStart => exact ⟨0, Nat.zero_le _, rfl, by rw [Oct.rest_zero], rfl⟩
  case round =>
    obtain ⟨k, hk, rfl, rfl, rfl⟩ := hrel
    by_cases hlt : k < width
    · go_wp2
      go_roundw
      case rel => exact ⟨k + 1, by omega, by go_num, by rw [Oct.rest_succ]; rfl, by rw [Oct.cells_set n width k _ (by simp)]⟩
      case measure => simp [RowKit.intOf]; omega
    · obtain rfl : k = width := by omega
      have hz' : (((Oct.rest n k : Nat) : Int) != 0) = false := by have := Hz.out; simp [this]
      go_wp2
      go_ret2
      exact ⟨rfl, rfl⟩

set_option maxHeartbeats 400000 in
theorem num_over (n width : Nat) (w : World) (h1 : 1 ≤ width) (h2 : width ≤ 8) (hn : n < 18446744073709551616) (hz : Oct.rest n width ≠ 0) :
    Calls Tryz.prog 53 #[.int .u64 n, .int .i64 width] w fun e w' => e = .returned (.tuple #[.string ⟨#[]⟩, .int .i64 1]) ∧ w.alloc (.cells (Oct.cells n width width) 5) = w' := by
  have Hn := Lib.hid hn; clear hn
  have Hz := Lib.hid hz; clear hz
  obtain ⟨i0, hi, hz0, hz1, hz2⟩ := info_parts Tryz.info5
  have hmk := fun wx => run_make (P := Tryz.prog) wx 63 5 i0 (.int .u8 0) Tryz.underlying63 hi hz0 .i64 .i64 width width (by omega) (by omega) (by rw [hz2]; omega) (by omega)
  simp only [hz1, Nat.mul_one, Value.cells, Int.toNat_natCast, Oct.cells_start n width] at hmk
  clear hi hz0 hz1 hz2
  have hsz := Oct.cells_size n width
  have hst := fun wx => Oct.run_cells (P := Tryz.prog) wx 63 9 5 n width width Tryz.underlying63 Tryz.underlying5 Tryz.underlying9
  go_enter Tryz.func53, Tryz.ntmps53
  go_wp2
  go_loopw [0, 17] (fun a i wr => ∃ k : Nat, k ≤ width ∧ i = .int .i64 k ∧ a = .int .u64 (Oct.rest n k : Nat) ∧ wr = w.alloc (.cells (Oct.cells n width k) 5)) (fun _ i _ => width - (RowKit.intOf i).toNat)
  case atStart => exact ⟨0, Nat.zero_le _, rfl, by rw [Oct.rest_zero], rfl⟩
  case round =>
    obtain ⟨k, hk, rfl, rfl, rfl⟩ := hrel
    by_cases hlt : k < width
    · go_wp2
      go_roundw
      case rel => exact ⟨k + 1, by omega, by go_num, by rw [Oct.rest_succ]; rfl, by rw [Oct.cells_set n width k _ (by simp)]⟩
      case measure => simp [RowKit.intOf]; omega
    · obtain rfl : k = width := by omega
      have hz' : (((Oct.rest n k : Nat) : Int) != 0) = true := by have := Hz.out; simp [this]
      go_wp2
      go_ret2
      exact ⟨rfl, rfl⟩

theorem num_fits' (n width : Int) (w : World) (h0 : 0 ≤ n) (h1 : 1 ≤ width) (h2 : width ≤ 8) (hn : n ≤ 18446744073709551615) (hz : Oct.rest n.toNat width.toNat = 0) :
    Calls Tryz.prog 53 #[.int .u64 n, .int .i64 width] w fun e w' => e = .returned (.tuple #[.string (Oct.str n.toNat width.toNat), .int .i64 0]) ∧ Below w.heap.size w w' := by
  obtain ⟨a, rfl⟩ := Int.eq_ofNat_of_zero_le h0
  obtain ⟨b, rfl⟩ := Int.eq_ofNat_of_zero_le (show 0 ≤ width by omega)
  exact (num_fits a b w (by omega) (by omega) (by omega) hz).mono fun e w' ⟨he, hw⟩ => ⟨he, hw ▸ (Below.refl _ _).alloc (Nat.le_refl _) _⟩
theorem num_over' (n width : Int) (w : World) (h0 : 0 ≤ n) (h1 : 1 ≤ width) (h2 : width ≤ 8) (hn : n ≤ 18446744073709551615) (hz : Oct.rest n.toNat width.toNat ≠ 0) :
    Calls Tryz.prog 53 #[.int .u64 n, .int .i64 width] w fun e w' => e = .returned (.tuple #[.string ⟨#[]⟩, .int .i64 1]) ∧ Below w.heap.size w w' := by
  obtain ⟨a, rfl⟩ := Int.eq_ofNat_of_zero_le h0
  obtain ⟨b, rfl⟩ := Int.eq_ofNat_of_zero_le (show 0 ≤ width by omega)
  exact (num_over a b w (by omega) (by omega) (by omega) hz).mono fun e w' ⟨he, hw⟩ => ⟨he, hw ▸ (Below.refl _ _).alloc (Nat.le_refl _) _⟩
theorem num_bad' (n width : Int) (w : World) (h : width < 1 ∨ 8 < width) :
    Calls Tryz.prog 53 #[.int .u64 n, .int .i64 width] w fun e w' => e = .returned (.tuple #[.string ⟨#[]⟩, .int .i64 1]) ∧ Below w.heap.size w w' :=
  (num_bad n width w h).mono fun e w' ⟨he, hw⟩ => ⟨he, hw ▸ Below.refl _ _⟩

end Go.Proofs.YtgafajbdmegfgaaGreat
