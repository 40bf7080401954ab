/- Images, those that live, undos compared; loads in the class of kept worlds. -/
import Derived.Test.YtggabnmfjooejaaPgEq
import Derived.Test.YtggabnmfjooejaaRecCheck
set_option linter.unusedVariables false
set_option linter.unusedSimpArgs false
namespace Go.Proofs.Ytggabnmfjooejaa
open Go.RowKit

theorem page_equal9 (p q : Pg) (w : World) : (Op.equalIn 9999 49 (.agg p.cs) (.agg q.cs)).run Try.prog w = .ok (pgB p q) w := by
  have hc := fun w => cells_eq 9995 p.c q.c w
  unfold cs6 at hc
  unfold Pg.cs
  go_simp
  unfold pgB
  by_cases h1 : p.k = q.k <;> by_cases h2 : p.l = q.l <;> by_cases h3 : p.s = q.s <;> by_cases h4 : p.n = q.n <;> cases cesB p.c q.c <;> simp [h1, h2, h3, h4]
def imB (a b : Im) : Bool := a.id == b.id && pgB a.p b.p
theorem image_equal (a b : Im) (w : World) : (Op.equalIn 10000 51 (.agg a.cs) (.agg b.cs)).run Try.prog w = .ok (imB a b) w := by
  have hp := fun w => page_equal9 a.p b.p w
  unfold Pg.cs at hp
  unfold Im.cs
  go_simp
  unfold imB
  by_cases h1 : a.id = b.id <;> cases pgB a.p b.p <;> simp [h1]
theorem image_neq (a b : Im) (w : World) : (binOp .neq 51 (.agg a.cs) (.agg b.cs)).run Try.prog w = .ok (.bool (!(imB a b))) w := by
  rw [run_neq_struct, image_equal]; rfl
def alB (a b : Al) : Bool := a.x == b.x && (a.f == b.f && a.l == b.l)
theorem alive_equal (a b : Al) (w : World) : (Op.equalIn 10000 54 (.agg a.cs) (.agg b.cs)).run Try.prog w = .ok (alB a b) w := by
  unfold Al.cs alB
  go_simp
  by_cases h1 : a.x = b.x <;> by_cases h2 : a.f = b.f <;> by_cases h3 : a.l = b.l <;> simp [h1, h2, h3]
theorem alive_neq (a b : Al) (w : World) : (binOp .neq 54 (.agg a.cs) (.agg b.cs)).run Try.prog w = .ok (.bool (!(alB a b))) w := by
  rw [run_neq_struct, alive_equal]; rfl
def unB (a b : Un) : Bool := a.k == b.k && (a.st == b.st && (a.pg == b.pg && (a.sl == b.sl && (a.key.toList == b.key.toList && ceB ⟨a.bs, a.bd⟩ ⟨b.bs, b.bd⟩))))
theorem undo_equal (a b : Un) (w : World) : (Op.equalIn 10000 25 (.agg a.cs) (.agg b.cs)).run Try.prog w = .ok (unB a b) w := by
  have hc := fun w => cell_eq 9997 ⟨a.bs, a.bd⟩ ⟨b.bs, b.bd⟩ w
  dsimp only at hc
  unfold Un.cs
  go_simp
  unfold unB
  by_cases h1 : a.k = b.k <;> by_cases h2 : a.st = b.st <;> by_cases h3 : a.pg = b.pg <;> by_cases h4 : a.sl = b.sl <;> by_cases h5 : a.key.toList = b.key.toList <;> cases ceB ⟨a.bs, a.bd⟩ ⟨b.bs, b.bd⟩ <;> simp [h1, h2, h3, h4, h5]
theorem undo_neq (a b : Un) (w : World) : (binOp .neq 25 (.agg a.cs) (.agg b.cs)).run Try.prog w = .ok (.bool (!(unB a b))) w := by
  rw [run_neq_struct, undo_equal]; rfl
theorem unB_iff (a b : Un) : unB a b = true ↔ a = b := by
  obtain ⟨a1, a2, a3, a4, a5, a6, a7⟩ := a
  obtain ⟨b1, b2, b3, b4, b5, b6, b7⟩ := b
  unfold unB
  simp only [Bool.and_eq_true, beq_iff_eq, ceB_iff, Ce.mk.injEq, Un.mk.injEq]
  constructor
  · rintro ⟨h1, h2, h3, h4, h5, h6, h7⟩
    refine ⟨h1, h2, h3, h4, ?_, h6, h7⟩
    by_cases h : a5 = b5
    · exact h
    · have := str_ne h; rw [h5] at this; simp at this
  · rintro ⟨h1, h2, h3, h4, h5, h6, h7⟩
    exact ⟨h1, h2, h3, h4, by rw [h5], h6, h7⟩
theorem alB_iff (a b : Al) : alB a b = true ↔ a = b := by
  obtain ⟨a1, a2, a3⟩ := a
  obtain ⟨b1, b2, b3⟩ := b
  unfold alB
  simp only [Bool.and_eq_true, beq_iff_eq, Al.mk.injEq]
theorem imB_iff (a b : Im) : imB a b = true ↔ a.id = b.id ∧ pgB a.p b.p = true := by
  unfold imB
  simp only [Bool.and_eq_true, beq_iff_eq]
theorem imB_self (a : Im) : imB a a = true := (imB_iff a a).2 ⟨rfl, pgB_self _⟩
theorem alB_self (a : Al) : alB a a = true := (alB_iff a a).2 rfl
theorem unB_self (a : Un) : unB a a = true := (unB_iff a a).2 rfl
end Go.Proofs.Ytggabnmfjooejaa
