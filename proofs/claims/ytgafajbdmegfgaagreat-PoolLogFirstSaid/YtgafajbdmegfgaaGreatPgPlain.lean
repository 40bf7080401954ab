/- Pages, as the walks know them. -/
import Derived.Test.YtgafajbdmegfgaaGreatBk
import Derived.Test.YtgafajbdmegfgaaGreatOctPlain
set_option linter.unusedVariables false
set_option linter.unusedSimpArgs false
namespace Go.Proofs.YtgafajbdmegfgaaGreat
open Go.RowKit

/-- A cell: its state, its data. -/
structure Ce where
  st : Int
  d : ByteArray
/-- A page. -/
structure Pg where
  k : Int
  l : Int
  s : Int
  n : Int
  c : Nat → Ce
def Ce.cs (c : Ce) : List Value := [.int .i64 c.st, .string c.d]
def cs6 (c : Nat → Ce) : Array Value := #[.int .i64 (c 0).st, .string (c 0).d, .int .i64 (c 1).st, .string (c 1).d, .int .i64 (c 2).st, .string (c 2).d, .int .i64 (c 3).st, .string (c 3).d, .int .i64 (c 4).st, .string (c 4).d, .int .i64 (c 5).st, .string (c 5).d]
def Pg.cs (p : Pg) : Array Value := #[.int .i64 p.k, .int .i64 p.l, .int .i64 p.s, .int .i64 p.n, .int .i64 (p.c 0).st, .string (p.c 0).d, .int .i64 (p.c 1).st, .string (p.c 1).d, .int .i64 (p.c 2).st, .string (p.c 2).d, .int .i64 (p.c 3).st, .string (p.c 3).d, .int .i64 (p.c 4).st, .string (p.c 4).d, .int .i64 (p.c 5).st, .string (p.c 5).d]
def Pg.v (p : Pg) : Value := .agg p.cs
def Ce.v (c : Ce) : Value := .agg #[.int .i64 c.st, .string c.d]

/-- May it be written? -/
def Ce.ok (c : Ce) : Prop := (c.st = 0 ∧ c.d = ⟨#[]⟩) ∨ ((c.st = 1 ∨ c.st = 2) ∧ c.d.size ≤ 34)
instance (c : Ce) : Decidable c.ok := by unfold Ce.ok; infer_instance
def Pg.head (p : Pg) : Prop := 0 ≤ p.k ∧ p.k ≤ 4 ∧ 0 ≤ p.l ∧ p.l ≤ 255 ∧ 0 ≤ p.s ∧ p.s ≤ 65535 ∧ 0 ≤ p.n ∧ p.n < 1024
instance (p : Pg) : Decidable p.head := by unfold Pg.head; infer_instance
def Pg.ok (p : Pg) : Prop := p.head ∧ ∀ i, i < 6 → (p.c i).ok
instance (p : Pg) : Decidable p.ok := by unfold Pg.ok; infer_instance
def Pg.err (p : Pg) : Int := if p.ok then 0 else 1
theorem Pg.err_ok {p : Pg} (h : p.ok) : p.err = 0 := if_pos h
theorem Pg.err_no {p : Pg} (h : ¬ p.ok) : p.err = 1 := if_neg h
theorem Ce.ok_iff (c : Ce) : c.ok ↔ 0 ≤ c.st ∧ c.st ≤ 2 ∧ (c.d.size : Int) ≤ 34 ∧ (c.st = 0 → ¬ 0 < c.d.size) := by
  have hd : c.d = ⟨#[]⟩ ↔ ¬ 0 < c.d.size := by
    constructor
    · intro h; rw [h]; decide
    · intro h
      have h2 : c.d.data = #[] := Array.eq_empty_of_size_eq_zero (by have : c.d.data.size = c.d.size := rfl; omega)
      exact ByteArray.ext h2
  unfold Ce.ok
  rw [hd]
  constructor
  · rintro (⟨h1, h2⟩ | ⟨h1 | h1, h2⟩) <;> refine ⟨?_, ?_, ?_, fun h => ?_⟩ <;> omega
  · rintro ⟨h1, h2, h3, h4⟩
    by_cases h : c.st = 0
    · exact .inl ⟨h, h4 h⟩
    · exact .inr ⟨by omega, by omega⟩
theorem six {k : Nat} (h : k < 6) : k = 0 ∨ k = 1 ∨ k = 2 ∨ k = 3 ∨ k = 4 ∨ k = 5 := by omega
end Go.Proofs.YtgafajbdmegfgaaGreat
