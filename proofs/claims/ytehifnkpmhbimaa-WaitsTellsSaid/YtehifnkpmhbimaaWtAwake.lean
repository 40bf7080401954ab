/- The walk of the laws' awake, for waits. -/
import Derived.Test.YtehifnkpmhbimaaWtCirc2
import Derived.Test.YtehifnkpmhbimaaWtDig
set_option linter.unusedVariables false
set_option linter.unusedSimpArgs false
namespace Go.Proofs.Ytehifnkpmhbimaa
open Go.RowKit

/-- Two arcs, there and back. -/
def two (y : Nat) : Arcs := ⟨2, fun i => if i = 0 then 0 else y, fun i => if i = 0 then y else 0⟩
theorem two_in (y n : Nat) (h0 : 0 < n) (h : y < n) : (two y).In n := fun i hi => by
  simp only [two]; constructor <;> split <;> omega
theorem two_at (w : World) (y : Nat) (t : TypeId) : IsArcs (w.alloc (.cells #[.int .i64 0, .int .i64 (y : Nat), .int .i64 (y : Nat), .int .i64 0] t)) (w.alloc (.cells #[.int .i64 0, .int .i64 (y : Nat), .int .i64 (y : Nat), .int .i64 0] t)).heap.size
    (.slice (some ⟨w.heap.size, 0, none⟩) 2 2) (two y) := by
  refine ⟨_, 2, rfl, by unfold maxLen; simp [two], fun _ => ⟨w.heap.size, 0, rfl, by simp, fun i hi => ?_⟩⟩
  have hb := Bk.new w t #[.int .i64 0, .int .i64 (y : Nat), .int .i64 (y : Nat), .int .i64 0]
  rcases (show i = 0 ∨ i = 1 by simp only [two] at hi; omega) with rfl | rfl
  · exact ⟨hb.cell 0, hb.cell 1⟩
  · exact ⟨hb.cell 2, hb.cell 3⟩

set_option maxHeartbeats 2000000 in
theorem awake_any (w : World) :
    Calls Try.prog 9 #[] w fun e w' => e = .returned (.bool true) ∧ Below w.heap.size w w' := by
  have cd := digests_good _ 2 (two 1) (w.alloc (.cells #[.int .i64 0, .int .i64 ((1 : Nat) : Int), .int .i64 ((1 : Nat) : Int), .int .i64 0] 42)) (by omega) (two_at w 1 42) (two_in 1 2 (by omega) (by omega))
  have cc := fun w => circle_on _ 3 0 (two 2) (w.alloc (.cells #[.int .i64 0, .int .i64 ((2 : Nat) : Int), .int .i64 ((2 : Nat) : Int), .int .i64 0] 42)) (by omega) (by omega) (two_at w 2 42) (two_in 2 3 (by omega) (by omega)) (by decide)
  have CD := Lib.hid cd; have CC := Lib.hid cc
  clear cd cc
  go_enter Try.func9, Try.ntmps9
  go_wp2_with fail
  refine CD.out.mono ?_
  rintro e w1 ⟨v1, rfl, hr1, hb1⟩
  have B1 := Lib.hid (((Below.refl _ w).alloc (Nat.le_refl _) (.cells #[.int .i64 0, .int .i64 ((1 : Nat) : Int), .int .i64 ((1 : Nat) : Int), .int .i64 0] 42)).trans (hb1.mono (by simp)))
  have R1 := Lib.hid hr1
  have CC1 := Lib.hid (CC.out w1)
  clear hb1 CD hr1 CC
  go_wp2_with fail
  refine CC1.out.mono ?_
  rintro e w2 ⟨v2, rfl, hr2, hb2⟩
  have b12 : Below w1.heap.size w1 w2 := ((Below.refl _ w1).alloc (Nat.le_refl _) (.cells #[.int .i64 0, .int .i64 ((2 : Nat) : Int), .int .i64 ((2 : Nat) : Int), .int .i64 0] 42)).trans (hb2.mono (by simp))
  have hfar : (two 2).far 3 0 = 1 := by decide
  rw [hfar] at hr2
  have B2 := Lib.hid (below_then B1.out b12 B1.out.size)
  have R12 := Lib.hid (R1.out.below b12 (Nat.le_refl _) |>.mono b12.size)
  have R2 := Lib.hid hr2
  have CV := Lib.hid (victim_some v2 2 _ w2 (by omega) (by unfold maxLen; omega) hr2)
  clear hb2 hr2 b12 R1 CC1 B1
  go_wp2_with fail
  refine CV.out.mono ?_
  rintro e w3 ⟨rfl, hb3⟩
  have B3 := Lib.hid (below_then B2.out hb3 B2.out.size)
  have r1 := R12.out.below hb3 (Nat.le_refl _)
  have r2 := R2.out.below hb3 (Nat.le_refl _)
  obtain ⟨a1, c1, rfl, _, r1⟩ := r1
  obtain ⟨g1, o1, rfl, _, r1⟩ := r1 (by omega)
  obtain ⟨a2, c2, rfl, _, r2⟩ := r2
  obtain ⟨g2, o2, rfl, _, r2⟩ := r2 (by omega)
  have z1 : w3.cell? ⟨g1, o1, none⟩ = some (.int .u64 3) := (r1 0 (by omega)).trans (congrArg (fun n : Nat => some (Value.int .u64 (n : Int))) (show (two 1).it 2 0 = 3 by decide))
  have z2 : w3.cell? ⟨g2, o2 + 1, none⟩ = some (.int .i64 2) := (r2 1 (by omega)).trans (congrArg (fun n : Nat => some (Value.int .i64 (n : Int))) (show (two 2).q 3 0 1 = 2 by decide))
  have zm : mxi (fun i => (((two 2).q 3 0 i : Nat) : Int)) (1 + 1 - 1) = 2 := by decide
  rw [zm]
  clear r1 r2 hb3 R12 R2 CV
  go_wp2
  go_ret
  exact ⟨rfl, B3.out⟩
end Go.Proofs.Ytehifnkpmhbimaa
