/- modes.isMode, modes.Above: for the programs that call no more of package modes. -/
import Derived.Test.YtokghbppdmlfkaaDoorProg
import Derived.Test.YtokghbppdmlfkaaDoorModPlain
import Derived.WalkKit
import Derived.WalkSpells
import Derived.WalkLawsBesides
import Derived.Lib.Hide
import Derived.Deep.QuietTactic
import Derived.BigQuiet
set_option linter.unusedVariables false
set_option linter.unusedSimpArgs false
namespace Go.Proofs.YtokghbppdmlfkaaDoor
open Go.RowKit

/-- The package's table lies in block 0. -/
def Tab (w : World) : Prop := 0 < w.heap.size ∧ ∀ i, i < 7 → w.cell? ⟨0, i, none⟩ = some (.int .i64 (Md.rt i))
theorem Tab.below {w w' : World} (h : Tab w) (hb : Below w.heap.size w w') : Tab w' :=
  ⟨Nat.lt_of_lt_of_le h.1 hb.size, fun i hi => by rw [hb.cell (p := ⟨0, i, none⟩) h.1]; exact h.2 i hi⟩

set_option maxHeartbeats 400000 in
theorem isMode_any (m : Int) (w : World) :
    Calls Tryd.prog 20 #[.int .i64 m] w fun e w' => e = .returned (.bool (Md.inR m)) ∧ w = w' := by
  by_cases h1 : 0 ≤ m
  · by_cases h2 : m ≤ 6
    · rw [show Md.inR m = true by simp [Md.inR]; omega]
      go_enter Tryd.func20, Tryd.ntmps20
      go_wp2
      go_ret
      exact ⟨rfl, rfl⟩
    · rw [show Md.inR m = false by simp [Md.inR]; omega]
      go_enter Tryd.func20, Tryd.ntmps20
      go_wp2
      go_ret
      exact ⟨rfl, rfl⟩
  · rw [show Md.inR m = false by simp [Md.inR]; omega]
    go_enter Tryd.func20, Tryd.ntmps20
    go_wp2
    go_ret
    exact ⟨rfl, rfl⟩
set_option maxHeartbeats 400000 in
theorem abv_any (a : Int) (w : World) (hT : Tab w) :
    Calls Tryd.prog 11 #[.int .i64 a] w fun e w' => e = .returned (.int .i64 (Md.abv a)) ∧ Below w.heap.size w w' := by
  have i1 := fun w => isMode_any a w
  rcases h1 : Md.inR a
  · rw [h1] at i1
    rw [Md.abv_out h1]
    have I1 := Lib.hid i1; clear i1 h1
    go_enter Tryd.func11, Tryd.ntmps11
    go_wp2_with fail
    refine (I1.out _).mono ?_
    rintro e w' ⟨rfl, rfl⟩
    go_wp2
    go_ret
    exact ⟨rfl, Below.refl _ _⟩
  · rw [h1] at i1
    obtain ⟨n, hn, rfl⟩ := Md.inR_yes h1
    have I1 := Lib.hid i1; clear i1 h1
    by_cases h0 : n = 0
    · subst h0
      rw [show Md.abv ((0 : Nat) : Int) = 0 from rfl]
      go_enter Tryd.func11, Tryd.ntmps11
      go_wp2_with fail
      refine (I1.out _).mono ?_
      rintro e w' ⟨rfl, rfl⟩
      go_wp2
      go_ret
      exact ⟨rfl, Below.refl _ _⟩
    · have hz : ((n : Int) == 0) = false := by simp; omega
      have hv := Md.abv_all ⟨n, hn⟩ h0
      simp only at hv
      have ca := hT.2 n hn
      rw [Md.abv_nat hn, ← hv]
      clear hv hT h0
      generalize Md.rt n = x at *
      rcases h : (bits .and .i64 x 10 != 0)
      all_goals
        simp only [Bool.false_eq_true, if_true, if_false]
        go_enter Tryd.func11, Tryd.ntmps11
        go_wp2_with fail
        refine (I1.out _).mono ?_
        rintro e w' ⟨rfl, rfl⟩
        go_wp2
        go_ret
        exact ⟨rfl, Below.refl _ _⟩

end Go.Proofs.YtokghbppdmlfkaaDoor
