/- The modes' tables, as plain functions, and what is true of them. No program in sight. -/
import Derived.Test.YtnpnpkaklamboaaDoorBk
import Derived.Laws.BitsAllLaws
set_option linter.unusedVariables false
set_option linter.unusedSimpArgs false
namespace Go.Proofs.YtnpnpkaklamboaaDoor
open Go.RowKit
namespace Md

def inR (m : Int) : Bool := decide (0 ≤ m) && decide (m ≤ 6)
def compT : List (List Bool) :=
  [[true, true, true, true, true, true, true], [true, true, true, true, true, true, false], [true, true, true, false, false, false, false], [true, true, false, true, false, true, false],
   [true, true, false, false, false, false, false], [true, true, false, true, false, false, false], [true, false, false, false, false, false, false]]
def joinT : List (List Int) :=
  [[0, 1, 2, 3, 4, 5, 6], [1, 1, 2, 3, 4, 5, 6], [2, 2, 2, 4, 4, 6, 6], [3, 3, 4, 3, 4, 5, 6], [4, 4, 4, 4, 4, 6, 6], [5, 5, 6, 5, 6, 5, 6], [6, 6, 6, 6, 6, 6, 6]]
def abvT : List Int := [0, 1, 2, 1, 2, 2, 2]
def compN (a b : Nat) : Bool := (compT.getD a []).getD b false
def joinN (a b : Nat) : Int := (joinT.getD a []).getD b 0
def comp (a b : Int) : Bool := if inR a && inR b then compN a.toNat b.toNat else false
def join (a b : Int) : Int := if inR a && inR b then joinN a.toNat b.toNat else 0
def cov (a b : Int) : Bool := inR a && inR b && join a b == a
def abv (a : Int) : Int := if inR a then abvT.getD a.toNat 0 else 0

/-- What a mode allows, in bits. -/
def rtT : List Int := [0, 1, 3, 5, 7, 13, 31]
def rt (n : Nat) : Int := rtT.getD n 0

theorem inR_yes {m : Int} (h : inR m = true) : ∃ n : Nat, n < 7 ∧ m = n := by
  simp [inR] at h
  exact ⟨m.toNat, by omega, by omega⟩
theorem inR_nat {n : Nat} (h : n < 7) : inR n = true := by simp [inR]; omega
theorem inR_no {m : Int} (h : inR m = false) : m < 0 ∨ 6 < m := by
  simp [inR] at h
  omega
theorem comp_nat {a b : Nat} (ha : a < 7) (hb : b < 7) : comp a b = compN a b := by
  unfold comp; rw [inR_nat ha, inR_nat hb]; simp
theorem join_nat {a b : Nat} (ha : a < 7) (hb : b < 7) : join a b = joinN a b := by
  unfold join; rw [inR_nat ha, inR_nat hb]; simp
theorem abv_nat {a : Nat} (ha : a < 7) : abv a = abvT.getD a 0 := by
  unfold abv; rw [inR_nat ha]; simp
theorem comp_out {a b : Int} (h : inR a = false ∨ inR b = false) : comp a b = false := by
  unfold comp; rcases h with h | h <;> simp [h]
theorem join_out {a b : Int} (h : inR a = false ∨ inR b = false) : join a b = 0 := by
  unfold join; rcases h with h | h <;> simp [h]
theorem cov_out {a b : Int} (h : inR a = false ∨ inR b = false) : cov a b = false := by
  unfold cov; rcases h with h | h <;> simp [h]
theorem abv_out {a : Int} (h : inR a = false) : abv a = 0 := by unfold abv; simp [h]

/-- Does the one allow what spoils a right of the other? -/
def clash (x y : Int) : Bool :=
  (bits .and .i64 x 2 != 0 && bits .and .i64 y 4 != 0) || (bits .and .i64 x 8 != 0 && bits .and .i64 y 8 != 0) || (bits .and .i64 x 16 != 0 && bits .and .i64 y 1 != 0)

theorem clash_all : ∀ a : Fin 7, ∀ b : Fin 7, (!clash (rt a) (rt b) && !clash (rt b) (rt a)) = compN a b := by decide +kernel
theorem join_all : ∀ a : Fin 7, ∀ b : Fin 7, ∃ j : Fin 7, joinN a b = ((j.val : Nat) : Int) ∧ (bits .and .i64 (rt j) (bits .or .i64 (rt a) (rt b)) == bits .or .i64 (rt a) (rt b)) = true ∧
    ∀ m : Fin 7, m < j → (bits .and .i64 (rt m) (bits .or .i64 (rt a) (rt b)) == bits .or .i64 (rt a) (rt b)) = false := by decide +kernel
theorem abv_all : ∀ a : Fin 7, a.val ≠ 0 → (if bits .and .i64 (rt a) 10 != 0 then (2 : Int) else 1) = abvT.getD a 0 := by decide +kernel

theorem join_fin (a b : Fin 7) : ∃ j : Fin 7, join (a.val : Nat) (b.val : Nat) = ((j.val : Nat) : Int) := by
  rw [join_nat a.isLt b.isLt]
  obtain ⟨j, h, _⟩ := join_all a b
  exact ⟨j, h⟩
theorem join3 : ∀ a b c : Fin 7, join (a : Nat) (b : Nat) = join (b : Nat) (a : Nat) ∧ join (join (a : Nat) (b : Nat)) (c : Nat) = join (a : Nat) (join (b : Nat) (c : Nat)) ∧
    cov (join (a : Nat) (b : Nat)) (a : Nat) = true ∧ cov (join (a : Nat) (b : Nat)) (b : Nat) = true ∧ join (a : Nat) (a : Nat) = ((a : Nat) : Int) ∧ comp (a : Nat) (b : Nat) = comp (b : Nat) (a : Nat) ∧
    (comp (c : Nat) (join (a : Nat) (b : Nat)) = false ∨ (comp (c : Nat) (a : Nat) = true ∧ comp (c : Nat) (b : Nat) = true)) := by decide +kernel
theorem order3 : ∀ a b c : Fin 7, cov (a : Nat) (a : Nat) = true ∧ ((cov (a : Nat) (b : Nat) && cov (b : Nat) (a : Nat) && ((a : Nat) : Int) != ((b : Nat) : Int)) = false) ∧
    (cov (a : Nat) (b : Nat) = false ∨ cov (b : Nat) (c : Nat) = false ∨ cov (a : Nat) (c : Nat) = true) := by decide +kernel
theorem weak3 : ∀ a b c : Fin 7, cov (a : Nat) (b : Nat) = false ∨ ((comp (c : Nat) (a : Nat) = false ∨ comp (c : Nat) (b : Nat) = true) ∧ cov (abv (a : Nat)) (abv (b : Nat)) = true) := by decide +kernel

end Md
end Go.Proofs.YtnpnpkaklamboaaDoor
