/- The walks of modes.Covers and Above, and of the document's own functions. -/
import Derived.Test.YticncaomingnpaaDoorModWalk
set_option linter.unusedVariables false
set_option linter.unusedSimpArgs false
namespace Go.Proofs.YticncaomingnpaaDoor
open Go.RowKit

set_option maxHeartbeats 400000 in
theorem cov_any (a b : Int) (w : World) (hT : Tab w) :
    Calls Tryd.prog 12 #[.int .i64 a, .int .i64 b] w fun e w' => e = .returned (.bool (Md.cov a b)) ∧ Below w.heap.size w w' := by
  have i1 := fun w => isMode_any a w
  have i2 := fun w => isMode_any b w
  have c := join_any a b w hT
  rcases h1 : Md.inR a
  · rw [h1] at i1
    rw [Md.cov_out (.inl h1)]
    have I1 := Lib.hid i1; clear i1 i2 c h1
    go_enter Tryd.func12, Tryd.ntmps12
    go_wp2_with fail
    refine (I1.out _).mono ?_
    rintro e w' ⟨rfl, rfl⟩
    go_wp2
    go_ret
    exact ⟨rfl, Below.refl _ _⟩
  · rw [h1] at i1
    rcases h2 : Md.inR b
    · rw [h2] at i2
      rw [Md.cov_out (.inr h2)]
      have I1 := Lib.hid i1; have I2 := Lib.hid i2; clear i1 i2 c h1 h2
      go_enter Tryd.func12, Tryd.ntmps12
      go_wp2_with fail
      refine (I1.out _).mono ?_
      rintro e w' ⟨rfl, rfl⟩
      go_wp2_with fail
      refine (I2.out _).mono ?_
      rintro e w' ⟨rfl, rfl⟩
      go_wp2
      go_ret
      exact ⟨rfl, Below.refl _ _⟩
    · rw [h2] at i2
      have e : Md.cov a b = (Md.join a b == a) := by unfold Md.cov; rw [h1, h2]; simp
      rw [e]
      have I1 := Lib.hid i1; have I2 := Lib.hid i2; have C := Lib.hid c; clear i1 i2 c h1 h2 e hT
      generalize Md.join a b = j at *
      rcases h : (j == a)
      all_goals
        go_enter Tryd.func12, Tryd.ntmps12
        go_wp2_with fail
        refine (I1.out _).mono ?_
        rintro e w' ⟨rfl, rfl⟩
        go_wp2_with fail
        refine (I2.out _).mono ?_
        rintro e w' ⟨rfl, rfl⟩
        go_wp2_with fail
        refine C.out.mono ?_
        rintro e w1 ⟨rfl, hb1⟩
        go_wp2
        go_ret
        exact ⟨rfl, hb1⟩

set_option maxHeartbeats 400000 in
theorem abv_any (a : Int) (w : World) (hT : Tab w) :
    Calls Tryd.prog 14 #[.int .i64 a] w fun e w' => e = .returned (.int .i64 (Md.abv a)) ∧ Below w.heap.size w w' := by
  have i1 := fun w => isMode_any a w
  rcases h1 : Md.inR a
  · rw [h1] at i1
    rw [Md.abv_out h1]
    have I1 := Lib.hid i1; clear i1 h1
    go_enter Tryd.func14, Tryd.ntmps14
    go_wp2_with fail
    refine (I1.out _).mono ?_
    rintro e w' ⟨rfl, rfl⟩
    go_wp2
    go_ret
    exact ⟨rfl, Below.refl _ _⟩
  · rw [h1] at i1
    obtain ⟨n, hn, rfl⟩ := Md.inR_yes h1
    have I1 := Lib.hid i1; clear i1 h1
    by_cases h0 : n = 0
    · subst h0
      rw [show Md.abv ((0 : Nat) : Int) = 0 from rfl]
      go_enter Tryd.func14, Tryd.ntmps14
      go_wp2_with fail
      refine (I1.out _).mono ?_
      rintro e w' ⟨rfl, rfl⟩
      go_wp2
      go_ret
      exact ⟨rfl, Below.refl _ _⟩
    · have hz : ((n : Int) == 0) = false := by simp; omega
      have hv := Md.abv_all ⟨n, hn⟩ h0
      simp only at hv
      have ca := hT.2 n hn
      rw [Md.abv_nat hn, ← hv]
      clear hv hT h0
      generalize Md.rt n = x at *
      rcases h : (bits .and .i64 x 10 != 0)
      all_goals
        simp only [Bool.false_eq_true, if_true, if_false]
        go_enter Tryd.func14, Tryd.ntmps14
        go_wp2_with fail
        refine (I1.out _).mono ?_
        rintro e w' ⟨rfl, rfl⟩
        go_wp2
        go_ret
        exact ⟨rfl, Below.refl _ _⟩

set_option maxHeartbeats 1000000 in
theorem rabv_any (a : Int) (w : World) :
    Calls Tryd.prog 15 #[.int .i64 a] w fun e w' => e = .returned (.int .i64 (Md.abv a)) ∧ Below w.heap.size w w' := by
  rcases h1 : Md.inR a
  · rw [Md.abv_out h1]
    have ho := Md.inR_no h1
    have g1 : (a == 1) = false := by simp; omega
    have g2 : (a == 2) = false := by simp; omega
    have g3 : (a == 3) = false := by simp; omega
    have g4 : (a == 4) = false := by simp; omega
    have g5 : (a == 5) = false := by simp; omega
    have g6 : (a == 6) = false := by simp; omega
    clear h1 ho
    go_enter Tryd.func15, Tryd.ntmps15
    go_wp2
    go_ret
    exact ⟨rfl, Below.refl _ _⟩
  · obtain ⟨n, hn, rfl⟩ := Md.inR_yes h1
    have : n = 0 ∨ n = 1 ∨ n = 2 ∨ n = 3 ∨ n = 4 ∨ n = 5 ∨ n = 6 := by omega
    clear h1 hn
    rcases this with rfl | rfl | rfl | rfl | rfl | rfl | rfl
    all_goals
      first
        | rw [show Md.abv ((0 : Nat) : Int) = 0 from rfl]
        | rw [show Md.abv ((1 : Nat) : Int) = 1 from rfl]
        | rw [show Md.abv ((2 : Nat) : Int) = 2 from rfl]
        | rw [show Md.abv ((3 : Nat) : Int) = 1 from rfl]
        | rw [show Md.abv ((4 : Nat) : Int) = 2 from rfl]
        | rw [show Md.abv ((5 : Nat) : Int) = 2 from rfl]
        | rw [show Md.abv ((6 : Nat) : Int) = 2 from rfl]
      go_enter Tryd.func15, Tryd.ntmps15
      go_wp2
      go_ret
      exact ⟨rfl, Below.refl _ _⟩

set_option maxHeartbeats 400000 in
theorem rcomp_outw (a b : Int) (w : World) (h : Md.inR a = false ∨ (Md.inR a = true ∧ Md.inR b = false)) :
    Calls Tryd.prog 9 #[.int .i64 a, .int .i64 b] w fun e w' => e = .returned (.bool false) ∧ Below w.heap.size w w' := by
  rcases h with h | ⟨h, h'⟩
  · have i1 := fun w => rMode_any a w
    rw [h] at i1
    have I1 := Lib.hid i1; clear i1 h
    go_enter Tryd.func9, Tryd.ntmps9
    go_wp2_with fail
    refine (I1.out _).mono ?_
    rintro e w' ⟨rfl, rfl⟩
    go_wp2
    go_ret
    exact ⟨rfl, Below.refl _ _⟩
  · have i1 := fun w => rMode_any a w
    have i2 := fun w => rMode_any b w
    rw [h] at i1
    rw [h'] at i2
    have I1 := Lib.hid i1; have I2 := Lib.hid i2; clear i1 i2 h h'
    go_enter Tryd.func9, Tryd.ntmps9
    go_wp2_with fail
    refine (I1.out _).mono ?_
    rintro e w' ⟨rfl, rfl⟩
    go_wp2_with fail
    refine (I2.out _).mono ?_
    rintro e w' ⟨rfl, rfl⟩
    go_wp2
    go_ret
    exact ⟨rfl, Below.refl _ _⟩

set_option maxHeartbeats 400000 in
theorem rjoin_outw (a b : Int) (w : World) (h : Md.inR a = false ∨ (Md.inR a = true ∧ Md.inR b = false)) :
    Calls Tryd.prog 11 #[.int .i64 a, .int .i64 b] w fun e w' => e = .returned (.int .i64 0) ∧ Below w.heap.size w w' := by
  rcases h with h | ⟨h, h'⟩
  · have i1 := fun w => rMode_any a w
    rw [h] at i1
    have I1 := Lib.hid i1; clear i1 h
    go_enter Tryd.func11, Tryd.ntmps11
    go_wp2_with fail
    refine (I1.out _).mono ?_
    rintro e w' ⟨rfl, rfl⟩
    go_wp2
    go_ret
    exact ⟨rfl, Below.refl _ _⟩
  · have i1 := fun w => rMode_any a w
    have i2 := fun w => rMode_any b w
    rw [h] at i1
    rw [h'] at i2
    have I1 := Lib.hid i1; have I2 := Lib.hid i2; clear i1 i2 h h'
    go_enter Tryd.func11, Tryd.ntmps11
    go_wp2_with fail
    refine (I1.out _).mono ?_
    rintro e w' ⟨rfl, rfl⟩
    go_wp2_with fail
    refine (I2.out _).mono ?_
    rintro e w' ⟨rfl, rfl⟩
    go_wp2
    go_ret
    exact ⟨rfl, Below.refl _ _⟩

/-- The rows of the document's tables. -/
def rowsC : Array Value := #[.string ⟨#[121, 121, 121, 121, 121, 121, 121]⟩, .string ⟨#[121, 121, 121, 121, 121, 121, 110]⟩, .string ⟨#[121, 121, 121, 110, 110, 110, 110]⟩, .string ⟨#[121, 121, 110, 121, 110, 121, 110]⟩, .string ⟨#[121, 121, 110, 110, 110, 110, 110]⟩, .string ⟨#[121, 121, 110, 121, 110, 110, 110]⟩, .string ⟨#[121, 110, 110, 110, 110, 110, 110]⟩]
def rowsJ : Array Value := #[.string ⟨#[48, 49, 50, 51, 52, 53, 54]⟩, .string ⟨#[49, 49, 50, 51, 52, 53, 54]⟩, .string ⟨#[50, 50, 50, 52, 52, 54, 54]⟩, .string ⟨#[51, 51, 52, 51, 52, 53, 54]⟩, .string ⟨#[52, 52, 52, 52, 52, 54, 54]⟩, .string ⟨#[53, 53, 54, 53, 54, 53, 54]⟩, .string ⟨#[54, 54, 54, 54, 54, 54, 54]⟩]
def rowC (a : Nat) : ByteArray := ([⟨#[121, 121, 121, 121, 121, 121, 121]⟩, ⟨#[121, 121, 121, 121, 121, 121, 110]⟩, ⟨#[121, 121, 121, 110, 110, 110, 110]⟩, ⟨#[121, 121, 110, 121, 110, 121, 110]⟩, ⟨#[121, 121, 110, 110, 110, 110, 110]⟩, ⟨#[121, 121, 110, 121, 110, 110, 110]⟩, ⟨#[121, 110, 110, 110, 110, 110, 110]⟩] : List ByteArray).getD a ⟨#[]⟩
def rowJ (a : Nat) : ByteArray := ([⟨#[48, 49, 50, 51, 52, 53, 54]⟩, ⟨#[49, 49, 50, 51, 52, 53, 54]⟩, ⟨#[50, 50, 50, 52, 52, 54, 54]⟩, ⟨#[51, 51, 52, 51, 52, 53, 54]⟩, ⟨#[52, 52, 52, 52, 52, 54, 54]⟩, ⟨#[53, 53, 54, 53, 54, 53, 54]⟩, ⟨#[54, 54, 54, 54, 54, 54, 54]⟩] : List ByteArray).getD a ⟨#[]⟩
theorem rowsC_at : ∀ a : Nat, a < 7 → rowsC[a]? = some (.string (rowC a)) := by
  intro a ha
  have : a = 0 ∨ a = 1 ∨ a = 2 ∨ a = 3 ∨ a = 4 ∨ a = 5 ∨ a = 6 := by omega
  rcases this with rfl | rfl | rfl | rfl | rfl | rfl | rfl <;> rfl
theorem rowsJ_at : ∀ a : Nat, a < 7 → rowsJ[a]? = some (.string (rowJ a)) := by
  intro a ha
  have : a = 0 ∨ a = 1 ∨ a = 2 ∨ a = 3 ∨ a = 4 ∨ a = 5 ∨ a = 6 := by omega
  rcases this with rfl | rfl | rfl | rfl | rfl | rfl | rfl <;> rfl
theorem rowC_all : ∀ a : Fin 7, (rowC a).size = 7 ∧ ∀ b : Fin 7, (((rowC a).data.toList.getD b 0).toNat == 121) = Md.compN a b := by decide +kernel
theorem rowJ_all : ∀ a : Fin 7, (rowJ a).size = 7 ∧ ∀ b : Fin 7, 48 ≤ ((rowJ a).data.toList.getD b 0).toNat ∧ ((((rowJ a).data.toList.getD b 0).toNat - 48 : Nat) : Int) = Md.joinN a b := by decide +kernel
theorem get_list (s : ByteArray) (b : Nat) (h : b < s.size) : s[b] = s.data.toList.getD b 0 := by
  have h' : b < s.data.size := h
  show s.data[b] = _
  rw [List.getD_eq_getElem?_getD, Array.getElem?_toList, Array.getElem?_eq_getElem h']
  rfl

set_option maxHeartbeats 400000 in
theorem rcomp_in (a b : Nat) (w : World) (ha : a < 7) (hb : b < 7) :
    Calls Tryd.prog 9 #[.int .i64 a, .int .i64 b] w fun e w' => e = .returned (.bool (Md.comp a b)) ∧ Below w.heap.size w w' := by
  have hr := rowC_all ⟨a, ha⟩
  obtain ⟨hz, hr⟩ := hr
  have hr := hr ⟨b, hb⟩
  simp only at hz hr
  have hbz : b < (rowC a).size := by omega
  have hget : rowsC[a]? = some (.string (rowC a)) := rowsC_at a ha
  unfold rowsC at hget
  have hget2 := hget
  simp only [List.getElem?_toArray] at hget2
  obtain ⟨hlt7, hget3⟩ := List.getElem?_eq_some_iff.1 hget2
  clear hget2 hget
  have hv : (((rowC a)[b].toNat : Int) == 121) = Md.compN a b := by
    rw [get_list (rowC a) b hbz, ← hr]
    generalize ((rowC a).data.toList.getD b 0).toNat = n
    by_cases h : n = 121
    · simp [h]
    · have h1 : (n == 121) = false := by simp [h]
      have h2 : ((n : Int) == 121) = false := by simp; omega
      rw [h1, h2]
  rw [Md.comp_nat ha hb]
  have i1 := fun w => rMode_any a w
  have i2 := fun w => rMode_any b w
  rw [Md.inR_nat ha] at i1
  rw [Md.inR_nat hb] at i2
  have I1 := Lib.hid i1; have I2 := Lib.hid i2; clear i1 i2 hr hz
  generalize rowC a = s at *
  generalize Md.compN a b = r at *
  go_enter Tryd.func9, Tryd.ntmps9
  go_wp2_with fail
  refine (I1.out _).mono ?_
  rintro e w' ⟨rfl, rfl⟩
  go_wp2_with fail
  refine (I2.out _).mono ?_
  rintro e w' ⟨rfl, rfl⟩
  go_wp2
  go_ret
  exact ⟨rfl, (Below.refl _ _).alloc (Nat.le_refl _) _⟩

set_option maxHeartbeats 400000 in
theorem rjoin_in (a b : Nat) (w : World) (ha : a < 7) (hb : b < 7) :
    Calls Tryd.prog 11 #[.int .i64 a, .int .i64 b] w fun e w' => e = .returned (.int .i64 (Md.join a b)) ∧ Below w.heap.size w w' := by
  have hr := rowJ_all ⟨a, ha⟩
  obtain ⟨hz, hr⟩ := hr
  have hr := hr ⟨b, hb⟩
  simp only at hz hr
  have hbz : b < (rowJ a).size := by omega
  have hget : rowsJ[a]? = some (.string (rowJ a)) := rowsJ_at a ha
  unfold rowsJ at hget
  have hget2 := hget
  simp only [List.getElem?_toArray] at hget2
  obtain ⟨hlt7, hget3⟩ := List.getElem?_eq_some_iff.1 hget2
  clear hget2 hget
  have hlt := UInt8.toNat_lt (rowJ a)[b]
  have hge : 48 ≤ (rowJ a)[b].toNat := by rw [get_list (rowJ a) b hbz]; exact hr.1
  have hv : (((rowJ a)[b].toNat : Int) - 48) = Md.joinN a b := by
    rw [← hr.2, get_list (rowJ a) b hbz]
    have := hr.1
    omega
  rw [Md.join_nat ha hb, ← hv]
  have i1 := fun w => rMode_any a w
  have i2 := fun w => rMode_any b w
  rw [Md.inR_nat ha] at i1
  rw [Md.inR_nat hb] at i2
  have I1 := Lib.hid i1; have I2 := Lib.hid i2; clear i1 i2 hr hz hv
  generalize rowJ a = s at *
  go_enter Tryd.func11, Tryd.ntmps11
  go_wp2_with fail
  refine (I1.out _).mono ?_
  rintro e w' ⟨rfl, rfl⟩
  go_wp2_with fail
  refine (I2.out _).mono ?_
  rintro e w' ⟨rfl, rfl⟩
  go_wp2
  go_ret
  refine ⟨?_, (Below.refl _ _).alloc (Nat.le_refl _) _⟩
  rfl

theorem rcomp_any (a b : Int) (w : World) :
    Calls Tryd.prog 9 #[.int .i64 a, .int .i64 b] w fun e w' => e = .returned (.bool (Md.comp a b)) ∧ Below w.heap.size w w' := by
  rcases inR_split a b with h | ⟨m, n, hm, hn, rfl, rfl⟩
  · rw [Md.comp_out (out_or h)]; exact rcomp_outw a b w h
  · exact rcomp_in m n w hm hn
theorem rjoin_any (a b : Int) (w : World) :
    Calls Tryd.prog 11 #[.int .i64 a, .int .i64 b] w fun e w' => e = .returned (.int .i64 (Md.join a b)) ∧ Below w.heap.size w w' := by
  rcases inR_split a b with h | ⟨m, n, hm, hn, rfl, rfl⟩
  · rw [Md.join_out (out_or h)]; exact rjoin_outw a b w h
  · exact rjoin_in m n w hm hn

set_option maxHeartbeats 400000 in
theorem rcov_any (a b : Int) (w : World) :
    Calls Tryd.prog 13 #[.int .i64 a, .int .i64 b] w fun e w' => e = .returned (.bool (Md.cov a b)) ∧ Below w.heap.size w w' := by
  have i1 := fun w => rMode_any a w
  have i2 := fun w => rMode_any b w
  have c := rjoin_any a b w
  rcases h1 : Md.inR a
  · rw [h1] at i1
    rw [Md.cov_out (.inl h1)]
    have I1 := Lib.hid i1; clear i1 i2 c h1
    go_enter Tryd.func13, Tryd.ntmps13
    go_wp2_with fail
    refine (I1.out _).mono ?_
    rintro e w' ⟨rfl, rfl⟩
    go_wp2
    go_ret
    exact ⟨rfl, Below.refl _ _⟩
  · rw [h1] at i1
    rcases h2 : Md.inR b
    · rw [h2] at i2
      rw [Md.cov_out (.inr h2)]
      have I1 := Lib.hid i1; have I2 := Lib.hid i2; clear i1 i2 c h1 h2
      go_enter Tryd.func13, Tryd.ntmps13
      go_wp2_with fail
      refine (I1.out _).mono ?_
      rintro e w' ⟨rfl, rfl⟩
      go_wp2_with fail
      refine (I2.out _).mono ?_
      rintro e w' ⟨rfl, rfl⟩
      go_wp2
      go_ret
      exact ⟨rfl, Below.refl _ _⟩
    · rw [h2] at i2
      have e : Md.cov a b = (Md.join a b == a) := by unfold Md.cov; rw [h1, h2]; simp
      rw [e]
      have I1 := Lib.hid i1; have I2 := Lib.hid i2; have C := Lib.hid c; clear i1 i2 c h1 h2 e
      generalize Md.join a b = j at *
      rcases h : (j == a)
      all_goals
        go_enter Tryd.func13, Tryd.ntmps13
        go_wp2_with fail
        refine (I1.out _).mono ?_
        rintro e w' ⟨rfl, rfl⟩
        go_wp2_with fail
        refine (I2.out _).mono ?_
        rintro e w' ⟨rfl, rfl⟩
        go_wp2_with fail
        refine C.out.mono ?_
        rintro e w1 ⟨rfl, hb1⟩
        go_wp2
        go_ret
        exact ⟨rfl, hb1⟩

end Go.Proofs.YticncaomingnpaaDoor
