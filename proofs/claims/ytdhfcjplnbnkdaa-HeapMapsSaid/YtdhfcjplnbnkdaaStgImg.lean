/- Images: a page's number and the page: rows of 17 cells. -/
import Derived.Test.YtdhfcjplnbnkdaaPgRow
import Derived.Test.YtdhfcjplnbnkdaaPgMem
import Derived.BigQuiet
set_option linter.unusedVariables false
set_option linter.unusedSimpArgs false
namespace Go.Proofs.Ytdhfcjplnbnkdaa
open Go.RowKit

structure Im where
  id : Int
  p : Pg
def Im.cs (i : Im) : Array Value := (.int .i64 i.id :: i.p.cs.toList).toArray
def Im.zero : Im := ⟨0, Pg.zero⟩
theorem im_len (p : Im) : p.cs.toList.length = 17 := rfl
def flatIm (ps : List Im) : List Value := ps.flatMap fun p => p.cs.toList
theorem flatIm_len : ∀ ps : List Im, (flatIm ps).length = ps.length * 17
  | [] => rfl
  | p :: ps => by
    have := flatIm_len ps
    show (p.cs.toList ++ flatIm ps).length = (ps.length + 1) * 17
    rw [List.length_append, im_len, this]; omega
theorem flatIm_get : ∀ (ps : List Im) (i : Nat) (p : Im), ps[i]? = some p → ∀ j, j < 17 → (flatIm ps)[i * 17 + j]? = p.cs[j]?
  | [], i, p, h, j, hj => by simp at h
  | q :: ps, 0, p, h, j, hj => by
    simp at h
    subst h
    show (q.cs.toList ++ flatIm ps)[0 * 17 + j]? = _
    rw [Nat.zero_mul, Nat.zero_add, List.getElem?_append_left (by rw [im_len]; exact hj)]
    simp
  | q :: ps, i + 1, p, h, j, hj => by
    have := flatIm_get ps i p (by simpa using h) j hj
    show (q.cs.toList ++ flatIm ps)[(i + 1) * 17 + j]? = _
    rw [List.getElem?_append_right (by rw [im_len]; omega), im_len, show (i + 1) * 17 + j - 17 = i * 17 + j by omega]
    exact this
/-- Block g is these images, and spare cells behind them. -/
structure IRow (w : World) (g : Nat) (l : List Im) : Prop where
  lt : g < w.heap.size
  cells : ∀ (i : Nat) (p : Im), l[i]? = some p → w.rangeAt g (i * 17) p.cs.toList
theorem Bk.irow {w : World} {g : Nat} {l : List Im} {cs : Array Value} (h : Bk w g 109 cs) (hc : ∀ j, j < l.length * 17 → cs[j]? = (flatIm l)[j]?) : IRow w g l :=
  ⟨h.lt, fun i p hi j v hv => by
    have hj : j < 17 := by have := (List.getElem?_eq_some_iff.1 hv).1; rwa [im_len] at this
    have hl : i < l.length := (List.getElem?_eq_some_iff.1 hi).1
    rw [h.cell, hc _ (by omega), flatIm_get l i p hi j hj]
    simpa using hv⟩
theorem IRow.kept {w w' : World} {g : Nat} {l : List Im} (h : IRow w g l) (hb : Below w.heap.size w w') : IRow w' g l :=
  ⟨Nat.lt_of_lt_of_le h.lt hb.size, fun i p hi j v hv => (hb.cell h.lt).trans (h.cells i p hi j v hv)⟩
theorem im_page {w : World} {g : Nat} {i : Im} (h : Bk w g 109 i.cs) : w.rangeAt g 1 i.p.cs.toList := fun j v hv => by
  rw [h.cell]
  unfold Im.cs
  rw [List.getElem?_toArray, Nat.add_comm 1 j, List.getElem?_cons_succ]
  exact hv
theorem im_id {w : World} {g : Nat} {i : Im} (h : Bk w g 109 i.cs) : w.cell? ⟨g, 0, none⟩ = some (.int .i64 i.id) := h.cell 0
section
variable {ops : Array Oper} {rest : List Oper} {o : Oper} {a : Act} {w : World} {Q : Exit → Act → World → Prop}
theorem load_im_at (hgd : o.guard = none) (x : Operand) (ho : o.op = .load 109 x) (g : Nat) (l : List Im) (i : Nat) (p : Im) (hi : l[i]? = some p) (hx : a.eval x = .pointer (some ⟨g, i * 17, none⟩)) (hr : IRow w g l)
    (h : wpList Try.prog ops Q rest (a.put o.dst (.agg p.cs)) w) : wpList Try.prog ops Q (o :: rest) a w :=
  wpList_load_mid hgd 109 x ho g (i * 17) hx p.cs.toList _ (hr.cells i p hi) Try.underlying109 rfl (by rw [im_len]; kernel_rfl) (by simpa using h)
theorem load_im_page (hgd : o.guard = none) (x : Operand) (ho : o.op = .load 40 x) (g : Nat) (i : Im) (hx : a.eval x = .pointer (some ⟨g, 1, none⟩)) (hb : Bk w g 109 i.cs)
    (h : wpList Try.prog ops Q rest (a.put o.dst (.agg i.p.cs)) w) : wpList Try.prog ops Q (o :: rest) a w :=
  wpList_load_mid hgd 40 x ho g 1 hx i.p.cs.toList _ (im_page hb) Try.underlying40 rfl (by rw [pg_len]; kernel_rfl) (by simpa using h)
theorem store_im_new (hgd : o.guard = none) (x y : Operand) (ho : o.op = .store 109 x y) (i : Im)
    (hx : a.eval x = .pointer (some ⟨w.heap.size, 0, none⟩)) (hy : a.eval y = .agg i.cs) (h : wpList Try.prog ops Q rest (a.put o.dst undef) (w.alloc (.cells i.cs 109))) : wpList Try.prog ops Q (o :: rest) a (w.alloc (.cells Im.zero.cs 109)) := by
  refine wpList_store_row hgd 109 x y ho w.heap.size i.cs hx hy 109 Im.zero.cs (Bk.new _ _ _) (by rw [show i.cs.size = 17 from rfl]; kernel_rfl) rfl (by simp [Im.cs, Pg.cs, Value.oneCell']) ?_
  rw [World.setRow_alloc_new]
  exact h
end
end Go.Proofs.Ytdhfcjplnbnkdaa
