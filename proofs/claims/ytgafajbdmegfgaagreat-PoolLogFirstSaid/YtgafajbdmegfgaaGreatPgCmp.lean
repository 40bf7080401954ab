/- Two pages compared. -/
import Derived.Test.YtgafajbdmegfgaaGreatPgWalk
import Derived.Laws.StructEq
import Derived.ChangeKeysEq
set_option linter.unusedVariables false
set_option linter.unusedSimpArgs false
namespace Go.Proofs.YtgafajbdmegfgaaGreat
open Go.RowKit

def ceB (a b : Ce) : Bool := a.st == b.st && a.d.toList == b.d.toList
theorem ceB_iff (a b : Ce) : ceB a b = true ↔ a = b := by
  obtain ⟨s, d⟩ := a
  obtain ⟨t, e⟩ := b
  unfold ceB
  simp only [Bool.and_eq_true, beq_iff_eq, Ce.mk.injEq]
  constructor
  · rintro ⟨h1, h2⟩
    refine ⟨h1, ?_⟩
    by_cases h : d = e
    · exact h
    · have := str_ne h; rw [h2] at this; simp at this
  · rintro ⟨h1, h2⟩; rw [h1, h2]; exact ⟨rfl, rfl⟩
theorem cell_eq (d : Nat) (a b : Ce) (w : World) : (Op.equalIn (d + 1 + 1) 38 (.agg #[.int .i64 a.st, .string a.d]) (.agg #[.int .i64 b.st, .string b.d])).run Tryz.prog w = .ok (ceB a b) w := by
  unfold ceB
  go_simp
  by_cases h1 : a.st = b.st <;> by_cases h2 : a.d.toList = b.d.toList <;> simp [h1, h2]
def cesB (a b : Nat → Ce) : Bool := ceB (a 0) (b 0) && (ceB (a 1) (b 1) && (ceB (a 2) (b 2) && (ceB (a 3) (b 3) && (ceB (a 4) (b 4) && ceB (a 5) (b 5)))))
theorem cells_eq (d : Nat) (a b : Nat → Ce) (w : World) : (Op.equalIn (d + 1 + 1 + 1) 39 (.agg (cs6 a)) (.agg (cs6 b))).run Tryz.prog w = .ok (cesB a b) w := by
  obtain ⟨i0, hi⟩ := info_of_underlying (P := Tryz.prog) Tryz.underlying38
  rw [run_equalIn_array _ _ _ _ Tryz.underlying39 hi, show Tryz.prog.cellsOf 38 = 2 from by kernel_rfl]
  have hp : ∀ (c : Nat → Ce) (w : World), (Go.part 38 (cs6 c) 0).run Tryz.prog w = .ok (.agg #[.int .i64 (c 0).st, .string (c 0).d]) w ∧ (Go.part 38 (cs6 c) 2).run Tryz.prog w = .ok (.agg #[.int .i64 (c 1).st, .string (c 1).d]) w
      ∧ (Go.part 38 (cs6 c) 4).run Tryz.prog w = .ok (.agg #[.int .i64 (c 2).st, .string (c 2).d]) w ∧ (Go.part 38 (cs6 c) 6).run Tryz.prog w = .ok (.agg #[.int .i64 (c 3).st, .string (c 3).d]) w
      ∧ (Go.part 38 (cs6 c) 8).run Tryz.prog w = .ok (.agg #[.int .i64 (c 4).st, .string (c 4).d]) w ∧ (Go.part 38 (cs6 c) 10).run Tryz.prog w = .ok (.agg #[.int .i64 (c 5).st, .string (c 5).d]) w := fun c w =>
    ⟨by kernel_rfl, by kernel_rfl, by kernel_rfl, by kernel_rfl, by kernel_rfl, by kernel_rfl⟩
  have q0 := fun c w => (hp c w).1
  have q1 := fun c w => (hp c w).2.1
  have q2 := fun c w => (hp c w).2.2.1
  have q3 := fun c w => (hp c w).2.2.2.1
  have q4 := fun c w => (hp c w).2.2.2.2.1
  have q5 := fun c w => (hp c w).2.2.2.2.2
  rw [show List.range 6 = [0, 1, 2, 3, 4, 5] from rfl]
  simp only [Op.eqItems, Sem.run_bind, Nat.zero_mul, Nat.one_mul, Nat.reduceMul, q0, q1, q2, q3, q4, q5, Result.andThen_ok, cell_eq, Sem.run_ite, Sem.run_pure]
  unfold cesB
  cases ceB (a 0) (b 0) <;> cases ceB (a 1) (b 1) <;> cases ceB (a 2) (b 2) <;> cases ceB (a 3) (b 3) <;> cases ceB (a 4) (b 4) <;> cases ceB (a 5) (b 5) <;> simp
def pgB (p q : Pg) : Bool := p.k == q.k && (p.l == q.l && (p.s == q.s && (p.n == q.n && cesB p.c q.c)))
theorem pgB_iff (p q : Pg) : pgB p q = true ↔ p.k = q.k ∧ p.l = q.l ∧ p.s = q.s ∧ p.n = q.n ∧ ∀ i, i < 6 → p.c i = q.c i := by
  unfold pgB cesB
  simp only [Bool.and_eq_true, beq_iff_eq, ceB_iff]
  constructor
  · rintro ⟨h1, h2, h3, h4, c0, c1, c2, c3, c4, c5⟩
    exact ⟨h1, h2, h3, h4, fun i hi => by rcases six hi with rfl | rfl | rfl | rfl | rfl | rfl <;> assumption⟩
  · rintro ⟨h1, h2, h3, h4, h5⟩
    exact ⟨h1, h2, h3, h4, h5 0 (by omega), h5 1 (by omega), h5 2 (by omega), h5 3 (by omega), h5 4 (by omega), h5 5 (by omega)⟩
theorem pgB_self (p : Pg) : pgB p p = true := (pgB_iff p p).2 ⟨rfl, rfl, rfl, rfl, fun _ _ => rfl⟩
theorem page_equal (p q : Pg) (w : World) : (Op.equalIn 10000 41 (.agg p.cs) (.agg q.cs)).run Tryz.prog w = .ok (pgB p q) w := by
  have hc := fun w => cells_eq 9996 p.c q.c w
  unfold cs6 at hc
  unfold Pg.cs
  go_simp
  unfold pgB
  by_cases h1 : p.k = q.k <;> by_cases h2 : p.l = q.l <;> by_cases h3 : p.s = q.s <;> by_cases h4 : p.n = q.n <;> cases cesB p.c q.c <;> simp [h1, h2, h3, h4]
theorem page_eql (p q : Pg) (w : World) : (binOp .eql 41 (.agg p.cs) (.agg q.cs)).run Tryz.prog w = .ok (.bool (pgB p q)) w := by
  rw [run_eql_struct, page_equal]; rfl
theorem page_neq (p q : Pg) (w : World) : (binOp .neq 41 (.agg p.cs) (.agg q.cs)).run Tryz.prog w = .ok (.bool (!(pgB p q))) w := by
  rw [run_neq_struct, page_equal]; rfl
end Go.Proofs.YtgafajbdmegfgaaGreat
