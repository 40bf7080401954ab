/- Pages in memory: a page loaded, stored, handed back. -/
import Derived.Test.YtgafajbdmegfgaaGreatPgPlain
import Derived.Test.YtgafajbdmegfgaaGreatProg
import Derived.WalkKit
import Derived.Laws.Rows
import Derived.Laws.ResultCell
import Derived.Laws.Tables
import Derived.Laws.CopyOwn
import Derived.Deep.WholeRow
import Derived.StillTailTactics
set_option linter.unusedVariables false
set_option linter.unusedSimpArgs false
namespace Go.Proofs.YtgafajbdmegfgaaGreat
open Go.RowKit

theorem run_loadPage (w : World) (g : Nat) (cs : Array Value) (h : Bk w g 41 cs) (hs : cs.size = 16) : (loadVar 41 ⟨g, 0, none⟩).run Tryz.prog w = .ok (.agg cs) w :=
  run_loadVar_row w g 41 41 cs (0, 0) _ h Tryz.underlying41 rfl (by rw [hs]; kernel_rfl)
theorem page_res {fn : Func} {p u : Tmp} (hf : fn.results = #[.cell p 41, .tmp u]) (tmps : Array Value) (w : World) (g : Nat) (cs : Array Value) (h : Bk w g 41 cs) (hs : cs.size = 16) (hp : tmps.getD p undef = .pointer (some ⟨g, 0, none⟩)) :
    (results fn tmps).run Tryz.prog w = .ok (.tuple #[.agg cs, tmps.getD u undef]) w := by
  rw [results_cell_tmp hf, hp]
  have := run_loadPage w g cs h hs
  simp [asAddr, Sem.run_pure, Result.andThen, this]
theorem load_page {ops : Array Oper} {rest : List Oper} {o : Oper} {a : Act} {w : World} {Q : Exit → Act → World → Prop} (hgd : o.guard = none) (x : Operand) (ho : o.op = .load 41 x) (g : Nat) (p : Pg)
    (hx : a.eval x = .pointer (some ⟨g, 0, none⟩)) (hb : Bk w g 41 p.cs) (h : wpList Tryz.prog ops Q rest (a.put o.dst (.agg p.cs)) w) : wpList Tryz.prog ops Q (o :: rest) a w :=
  wpList_load_row hgd 41 x ho g hx 41 p.cs (0, 0) _ hb Tryz.underlying41 rfl (by rw [show p.cs.size = 16 from rfl]; kernel_rfl) h
theorem store_page {ops : Array Oper} {rest : List Oper} {o : Oper} {a : Act} {w : World} {Q : Exit → Act → World → Prop} (hgd : o.guard = none) (x y : Operand) (ho : o.op = .store 41 x y) (g : Nat) (p q : Pg)
    (hx : a.eval x = .pointer (some ⟨g, 0, none⟩)) (hy : a.eval y = .agg p.cs) (hb : Bk w g 41 q.cs) (h : wpList Tryz.prog ops Q rest (a.put o.dst undef) (w.setRow g p.cs)) : wpList Tryz.prog ops Q (o :: rest) a w :=
  wpList_store_row hgd 41 x y ho g p.cs hx hy 41 q.cs hb (by rw [show p.cs.size = 16 from rfl]; kernel_rfl) rfl (by simp [Pg.cs, Value.oneCell']) h
theorem row_bk {w : World} {g : Nat} {p q : Pg} (hb : Bk w g 41 q.cs) : Bk (w.setRow g p.cs) g 41 p.cs := setRow_heap _ _ _ _ _ _ hb
theorem row_far {w : World} {g k : Nat} {t : TypeId} {cs ds : Array Value} (hb : Bk w k t ds) (h : k ≠ g) : Bk (w.setRow g cs) k t ds := (setRow_other w g k cs h).trans hb
def Pg.zero : Pg := ⟨0, 0, 0, 0, fun _ => ⟨0, ⟨#[]⟩⟩⟩
theorem Pg.cs_eq {p q : Pg} (h : p.k = q.k ∧ p.l = q.l ∧ p.s = q.s ∧ p.n = q.n ∧ ∀ i, i < 6 → p.c i = q.c i) : p.cs = q.cs := by
  obtain ⟨h1, h2, h3, h4, h5⟩ := h
  unfold Pg.cs
  rw [h1, h2, h3, h4, h5 0 (by omega), h5 1 (by omega), h5 2 (by omega), h5 3 (by omega), h5 4 (by omega), h5 5 (by omega)]
theorem store_page_new {ops : Array Oper} {rest : List Oper} {o : Oper} {a : Act} {w : World} {Q : Exit → Act → World → Prop} (hgd : o.guard = none) (x y : Operand) (ho : o.op = .store 41 x y) (p : Pg)
    (hx : a.eval x = .pointer (some ⟨w.heap.size, 0, none⟩)) (hy : a.eval y = .agg p.cs) (h : wpList Tryz.prog ops Q rest (a.put o.dst undef) (w.alloc (.cells p.cs 41))) : wpList Tryz.prog ops Q (o :: rest) a (w.alloc (.cells Pg.zero.cs 41)) := by
  refine store_page hgd x y ho w.heap.size p Pg.zero hx hy (Bk.new _ _ _) ?_
  rw [World.setRow_alloc_new]
  exact h
section
variable {ops : Array Oper} {rest : List Oper} {o : Oper} {a : Act} {w : World} {Q : Exit → Act → World → Prop}
theorem load_page_if (x : Operand) (ho : o.op = .load 41 x) (hw : Region.wanted o (yielded ops a.tmps) = true) (g : Nat) (p : Pg)
    (hx : a.eval x = .pointer (some ⟨g, 0, none⟩)) (hb : Bk w g 41 p.cs) (h : wpList Tryz.prog ops Q rest (a.put o.dst (.agg p.cs)) w) : wpList Tryz.prog ops Q (o :: rest) a w := by
  refine wpList_step fun K hK => ?_
  rw [if_pos hw]
  exact wp_load_row 41 x ho g hx 41 p.cs (0, 0) _ hb Tryz.underlying41 rfl (by rw [show p.cs.size = 16 from rfl]; kernel_rfl) (hK _ _ h)
theorem still_page {Q : Act → Prop} (hgd : o.guard = none) (x : Operand) (ho : o.op = .load 41 x) (g : Nat) (p : Pg) (hx : a.eval x = .pointer (some ⟨g, 0, none⟩)) (hb : Bk w g 41 p.cs)
    (h : wpStill Tryz.prog ops w Q rest (a.put o.dst (.agg p.cs))) : wpStill Tryz.prog ops w Q (o :: rest) a := by
  refine wpStill_step fun K hK => ?_
  have hw : Region.wanted o (yielded ops a.tmps) = true := by simp [Region.wanted, hgd]
  rw [if_pos hw]
  unfold Oper.still execOp
  simp only [ho, hx, Instr.loadAt, Instr.sureAddr, Sem.run_bind, Sem.run_pure, Result.andThen_ok, run_loadPage w g p.cs hb rfl]
  exact ⟨rfl, hK _ h⟩
end
end Go.Proofs.YtgafajbdmegfgaaGreat
