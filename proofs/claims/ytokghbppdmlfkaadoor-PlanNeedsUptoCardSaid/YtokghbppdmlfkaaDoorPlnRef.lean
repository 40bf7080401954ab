/- The document's own functions for the plan: Put, Item, Above. -/
import Derived.Test.YtokghbppdmlfkaaDoorPlnAwake
import Derived.Test.YtokghbppdmlfkaaDoorOctRNum
set_option linter.unusedVariables false
set_option linter.unusedSimpArgs false
namespace Go.Proofs.YtokghbppdmlfkaaDoor
open Go.RowKit

theorem put_any (n width : Nat) (w : World) (h1 : 1 ≤ width) (h2 : width ≤ 8) (hn : n ≤ 9223372036854775807) :
    Calls Tryd.prog 24 #[.int .i64 n, .int .i64 width] w fun e w' => e = .returned (.string (Oct.str n width)) ∧ Below w.heap.size w w' := by
  have c := rnum_good n width w h1 h2 (by omega)
  have C := Lib.hid c
  clear c
  go_enter Tryd.func24, Tryd.ntmps24
  go_wp2_with fail
  refine C.out.mono ?_
  rintro e w1 ⟨rfl, hb⟩
  clear C
  have HB := Lib.hid hb; clear hb
  go_wp2
  go_ret
  exact ⟨rfl, HB.out⟩
set_option maxHeartbeats 1000000 in
theorem rabv_any (a : Int) (w : World) :
    Calls Tryd.prog 19 #[.int .i64 a] w fun e w' => e = .returned (.int .i64 (Md.abv a)) ∧ Below w.heap.size w w' := by
  rcases h1 : Md.inR a
  · rw [Md.abv_out h1]
    have ho := Md.inR_no h1
    have g1 : (a == 1) = false := by simp; omega
    have g2 : (a == 2) = false := by simp; omega
    have g3 : (a == 3) = false := by simp; omega
    have g4 : (a == 4) = false := by simp; omega
    have g5 : (a == 5) = false := by simp; omega
    have g6 : (a == 6) = false := by simp; omega
    clear h1 ho
    go_enter Tryd.func19, Tryd.ntmps19
    go_wp2
    go_ret
    exact ⟨rfl, Below.refl _ _⟩
  · obtain ⟨n, hn, rfl⟩ := Md.inR_yes h1
    have : n = 0 ∨ n = 1 ∨ n = 2 ∨ n = 3 ∨ n = 4 ∨ n = 5 ∨ n = 6 := by omega
    clear h1 hn
    rcases this with rfl | rfl | rfl | rfl | rfl | rfl | rfl
    all_goals
      first
        | rw [show Md.abv ((0 : Nat) : Int) = 0 from rfl]
        | rw [show Md.abv ((1 : Nat) : Int) = 1 from rfl]
        | rw [show Md.abv ((2 : Nat) : Int) = 2 from rfl]
        | rw [show Md.abv ((3 : Nat) : Int) = 1 from rfl]
        | rw [show Md.abv ((4 : Nat) : Int) = 2 from rfl]
        | rw [show Md.abv ((5 : Nat) : Int) = 2 from rfl]
        | rw [show Md.abv ((6 : Nat) : Int) = 2 from rfl]
      go_enter Tryd.func19, Tryd.ntmps19
      go_wp2
      go_ret
      exact ⟨rfl, Below.refl _ _⟩

set_option maxHeartbeats 1000000 in
theorem ritem_any (n : Int) (w : World) (h0 : -9223372036854775808 ≤ n) (h1 : n ≤ 9223372036854775807) :
    Calls Tryd.prog 18 #[.int .i64 n] w fun e w' => e = .returned (.string (itemB n)) ∧ Below w.heap.size w w' := by
  have IB := Lib.hid (show itemB n = Oct.str ((max n 0) % 4294967296).toNat 4 from rfl)
  have C := Lib.hid (fun k w (h : k ≤ 9223372036854775807) => put_any k 4 w (by omega) (by omega) h)
  by_cases hn : 0 ≤ n
  · rw [show max n 0 = n by omega] at *
    obtain ⟨k, rfl⟩ := Int.eq_ofNat_of_zero_le hn
    have ht : ((k : Int).tmod 4294967296) = ((k % 4294967296 : Nat) : Int) := by
      rw [Int.tmod_eq_emod_of_nonneg (by omega)]; simp
    have hnn : ¬ (k : Int) < 0 := by omega
    have IB2 := Lib.hid (show itemB (k : Int) = Oct.str (k % 4294967296) 4 by rw [IB.out]; congr 1)
    clear IB
    go_enter Tryd.func18, Tryd.ntmps18
    go_wp2_with fail
    all_goals
      first
        | omega
        | skip
    refine (C.out (k % 4294967296) _ (by omega)).mono ?_
    rintro e w1 ⟨rfl, hb⟩
    have B := Lib.hid hb
    clear hb
    go_wp2
    go_ret
    exact ⟨by rw [IB2.out]; rfl, B.out⟩
  · rw [show max n 0 = 0 by omega] at *
    have hnn : n < 0 := by omega
    go_enter Tryd.func18, Tryd.ntmps18
    go_wp2_with fail
    all_goals
      first
        | omega
        | skip
    refine (C.out 0 _ (by omega)).mono ?_
    rintro e w1 ⟨rfl, hb⟩
    have B := Lib.hid hb
    clear hb
    go_wp2
    go_ret
    exact ⟨by rw [IB.out]; rfl, B.out⟩
end Go.Proofs.YtokghbppdmlfkaaDoor
