/- Images and those that live, as they lie in memory. -/
import Derived.Test.YtggabnmfjooejaaRecUndo2
import Derived.Deep.WholeRow
set_option linter.unusedVariables false
set_option linter.unusedSimpArgs false
namespace Go.Proofs.Ytggabnmfjooejaa
open Go.RowKit Go.BigFrame

def Pg.zero_ : Pg := ⟨0, 0, 0, 0, fun _ => ⟨0, ⟨#[]⟩⟩⟩
def Im.zero : Im := ⟨0, Pg.zero_⟩
/-- Images: 17 cells each. -/
def ImAt (w : World) (B : Nat) (v : Value) (m : Nat) (im : Nat → Im) : Prop :=
  ∃ a c, v = .slice a m c ∧ m ≤ maxLen ∧ (0 < m → ∃ b off, a = some (⟨b, off, none⟩ : Addr) ∧ b < B ∧ ∀ i, i < m → ∀ j u, (im i).cs.toList[j]? = some u → w.cell? ⟨b, off + i * 17 + j, none⟩ = some u)
/-- Those that live: 3 cells each. -/
def AlAt (w : World) (B : Nat) (v : Value) (m : Nat) (al : Nat → Al) : Prop :=
  ∃ a c, v = .slice a m c ∧ m ≤ maxLen ∧ (0 < m → ∃ b off, a = some (⟨b, off, none⟩ : Addr) ∧ b < B ∧ ∀ i, i < m → ∀ j u, (al i).cs.toList[j]? = some u → w.cell? ⟨b, off + i * 3 + j, none⟩ = some u)
theorem ImAt.below {w w' : World} {B B' : Nat} {v : Value} {m : Nat} {im : Nat → Im} (h : ImAt w B v m im) (hb : Below B' w w') (hB : B ≤ B') : ImAt w' B v m im := by
  obtain ⟨a, c, e, hm, h⟩ := h
  refine ⟨a, c, e, hm, fun h0 => ?_⟩
  obtain ⟨b, off, e1, hlt, hc⟩ := h h0
  exact ⟨b, off, e1, hlt, fun i hi j u hj => by rw [hb.cell (p := ⟨b, off + i * 17 + j, none⟩) (by show b < B'; omega)]; exact hc i hi j u hj⟩
theorem AlAt.below {w w' : World} {B B' : Nat} {v : Value} {m : Nat} {al : Nat → Al} (h : AlAt w B v m al) (hb : Below B' w w') (hB : B ≤ B') : AlAt w' B v m al := by
  obtain ⟨a, c, e, hm, h⟩ := h
  refine ⟨a, c, e, hm, fun h0 => ?_⟩
  obtain ⟨b, off, e1, hlt, hc⟩ := h h0
  exact ⟨b, off, e1, hlt, fun i hi j u hj => by rw [hb.cell (p := ⟨b, off + i * 3 + j, none⟩) (by show b < B'; omega)]; exact hc i hi j u hj⟩
theorem ImAt.mono {w : World} {B B' : Nat} {v : Value} {m : Nat} {im : Nat → Im} (h : ImAt w B v m im) (hB : B ≤ B') : ImAt w B' v m im := by
  obtain ⟨a, c, e, hm, h⟩ := h
  refine ⟨a, c, e, hm, fun h0 => ?_⟩
  obtain ⟨b, off, e1, hlt, hc⟩ := h h0
  exact ⟨b, off, e1, by omega, hc⟩
theorem AlAt.mono {w : World} {B B' : Nat} {v : Value} {m : Nat} {al : Nat → Al} (h : AlAt w B v m al) (hB : B ≤ B') : AlAt w B' v m al := by
  obtain ⟨a, c, e, hm, h⟩ := h
  refine ⟨a, c, e, hm, fun h0 => ?_⟩
  obtain ⟨b, off, e1, hlt, hc⟩ := h h0
  exact ⟨b, off, e1, by omega, hc⟩

/-- A struct that lies anywhere, loaded whole. -/
theorem part_load {ty : TypeId} {fs : Array Field} (hu : Try.prog.underlying ty = some (.struct fs)) (w : World) (b off : Nat) (cs : Array Value) (hi : (Try.prog.info? ty).map (·.size) = some cs.toList.length)
    (h : ∀ j u, cs.toList[j]? = some u → w.cell? ⟨b, off + j, none⟩ = some u) : (loadVar ty ⟨b, off, none⟩).run Try.prog w = .ok (.agg cs) w := by
  have hl := run_loadCells_list (P := Try.prog) w ⟨b, off, none⟩ cs.toList (fun j v hv => by rw [Addr.add_lit]; exact h j v hv)
  cases hq : Try.prog.info? ty with
  | none => simp [hq] at hi
  | some i0 =>
    have hs : i0.size = cs.size := by simpa [hq] using hi
    have hl2 : (loadCells ⟨b, off, none⟩ cs.size).run Try.prog w = .ok cs w := by simpa using hl
    simp [loadVar, isAgg, run_underlying hu, sizeOf, typeInfo, hq, hs, hl2]
section
variable {ops : Array Oper} {rest : List Oper} {o : Oper} {a : Act} {w : World} {Q : Exit → Act → World → Prop}
theorem wpList_load_part (ty : TypeId) (x : Operand) (ho : o.op = .load ty x) (hw : Region.wanted o (yielded ops a.tmps) = true) (b off : Nat) (cs : Array Value)
    (hx : a.eval x = .pointer (some ⟨b, off, none⟩)) (hr : (loadVar ty ⟨b, off, none⟩).run Try.prog w = .ok (.agg cs) w) (h : wpList Try.prog ops Q rest (a.put o.dst (.agg cs)) w) : wpList Try.prog ops Q (o :: rest) a w := by
  refine wpList_step fun K hK => ?_
  rw [if_pos hw]
  unfold Oper.wp execOp
  simp only [ho, hx, Instr.loadAt, Instr.sureAddr, Sem.run_bind, Sem.run_pure, Result.andThen_ok, hr]
  exact hK _ _ h
theorem image_info : (Try.prog.info? 51).map (·.size) = some 17 := by kernel_rfl
theorem alive_info : (Try.prog.info? 54).map (·.size) = some 3 := by kernel_rfl
theorem page_info : (Try.prog.info? 49).map (·.size) = some 16 := by kernel_rfl
theorem store_im_new (hgd : o.guard = none) (x y : Operand) (ho : o.op = .store 51 x y) (m : Im)
    (hx : a.eval x = .pointer (some ⟨w.heap.size, 0, none⟩)) (hy : a.eval y = .agg m.cs) (h : wpList Try.prog ops Q rest (a.put o.dst undef) (w.alloc (.cells m.cs 51))) : wpList Try.prog ops Q (o :: rest) a (w.alloc (.cells Im.zero.cs 51)) := by
  refine wpList_store_row hgd 51 x y ho w.heap.size m.cs hx hy 51 Im.zero.cs (Bk.new _ _ _) image_info rfl (by simp [Value.oneCell', Im.cs]) ?_
  rw [World.setRow_alloc_new]
  exact h
end
/-- An image's page, in the image's own block. -/
theorem im_page {w : World} {g : Nat} {m : Im} (h : Bk w g 51 m.cs) : (loadVar 49 ⟨g, 1, none⟩).run Try.prog w = .ok (.agg m.p.cs) w :=
  part_load Try.underlying49 w g 1 m.p.cs page_info fun j u hj => by
    rw [h.cell]
    have : m.cs[1 + j]? = m.p.cs.toList[j]? := by
      have e : m.cs = (Value.int .i64 m.id :: m.p.cs.toList).toArray := rfl
      rw [e, Nat.add_comm]
      simp
    rw [this]; exact hj
end Go.Proofs.Ytggabnmfjooejaa
