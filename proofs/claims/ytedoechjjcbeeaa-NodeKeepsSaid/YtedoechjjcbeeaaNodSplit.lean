/- The walk of package node: Split. -/
import Derived.Test.YtedoechjjcbeeaaNodTake
import Derived.OrdersHeld
set_option linter.unusedVariables false
set_option linter.unusedSimpArgs false
namespace Go.Proofs.Ytedoechjjcbeeaa
open Go.RowKit

/-- A page without its cells. -/
def Pg.clear (p : Pg) : Pg := { p with c := fun _ => czero }
def halfOf (p : Pg) : Nat := (cnt p.c + 1) / 2
def lowP (p : Pg) : Pg := p.clear.blit p.c 0 0 (halfOf p)
def high0 (p : Pg) : Pg := p.clear.blit p.c 0 (halfOf p) (cnt p.c - halfOf p)
def sepOf (p : Pg) : ByteArray := (p.c (halfOf p)).key
def highP (p : Pg) : Pg := if p.l = 0 then high0 p else (high0 p).set 0 ⟨(p.c (halfOf p)).st, dat ⟨#[]⟩ (p.c (halfOf p)).rst⟩
theorem clear_list (p : Pg) : (p.cs.toList.take 4 ++ (cs6 fun _ => czero).toList ++ p.cs.toList.drop (4 + (cs6 fun _ => czero).toList.length)).toArray = p.clear.cs := by
  simp [Pg.cs, cs6, Pg.clear]
theorem run_storeCells12 (w : World) (g : Nat) (p : Pg) (hb : Bk w g 40 p.cs) :
    (storeVar 38 ⟨g, 4, none⟩ (.agg (cs6 fun _ => czero))).run Try.prog w = .ok () (w.setRow g p.clear.cs) := by
  have h := run_storeCells_at Try.prog g 4 40 (cs6 fun _ => czero).toList 0 p.cs w hb (by show 4 + 12 ≤ 16; omega) (fun v hv => by
    simp [cs6, czero] at hv
    rcases hv with rfl | rfl | rfl | rfl | rfl | rfl | rfl | rfl | rfl | rfl | rfl | rfl <;> rfl)
  rw [show 4 + 0 = 4 from rfl, clear_list] at h
  have hsz : (Try.prog.info? 38).map (·.size) = some 12 := by kernel_rfl
  cases hq : Try.prog.info? 38 with
  | none => simp [hq] at hsz
  | some i =>
    have hs : i.size = 12 := by simpa [hq] using hsz
    have h12 : (cs6 fun _ => czero).size = 12 := rfl
    simp [storeVar, sizeOf, typeInfo, hq, Value.cells, hs, h12, h]
theorem store_clear {ops : Array Oper} {rest : List Oper} {o : Oper} {a : Act} {w : World} {Q : Exit → Act → World → Prop} (hgd : o.guard = none) (x y : Operand) (ho : o.op = .store 38 x y) (g : Nat) (p : Pg)
    (hx : a.eval x = .pointer (some ⟨g, 4, none⟩)) (hy : a.eval y = .agg (cs6 fun _ => czero)) (hb : Bk w g 40 p.cs) (h : wpList Try.prog ops Q rest (a.put o.dst undef) (w.setRow g p.clear.cs)) : wpList Try.prog ops Q (o :: rest) a w :=
  wpList_plain hgd fun _ hK => by
    unfold Oper.wp execOp
    simp only [ho, hx, hy, Instr.storeAt, Instr.sureAddr, Sem.run_bind, Sem.run_pure, Result.andThen_ok, run_storeCells12 w g p hb]
    exact hK _ _ h
theorem slice_all (g : Nat) (wx : World) : (Instr.sliceAt 38 (.pointer (some ⟨g, 4, none⟩)) none none none).run Try.prog wx = .ok (.slice (some ⟨g, 4, none⟩) 6 6) wx := by
  have hal : Try.prog.arrayLen 38 = 6 := by kernel_rfl
  have hel : Try.prog.elem 38 = 23 := by kernel_rfl
  obtain ⟨i0, hi0⟩ := info_of_underlying (P := Try.prog) Try.underlying23
  rw [run_sliceAt_array_all wx 38 _ (by rw [hal, hel]; exact Try.underlying38), hel, run_sizeOf wx hi0, hal]
  simp [slicedAt, Addr.add, Result.andThen]
theorem slice_h (g i : Nat) (hi : i ≤ 6) (wx : World) : (Instr.sliceAt 38 (.pointer (some ⟨g, 4, none⟩)) none (some (.int .i64 (i : Int))) none).run Try.prog wx = .ok (.slice (some ⟨g, 4, none⟩) i 6) wx := by
  have hal : Try.prog.arrayLen 38 = 6 := by kernel_rfl
  have hel : Try.prog.elem 38 = 23 := by kernel_rfl
  obtain ⟨i0, hi0⟩ := info_of_underlying (P := Try.prog) Try.underlying23
  rw [run_sliceAt_array_h wx 38 _ (by rw [hal, hel]; exact Try.underlying38) .i64 (i : Int) (by omega) (by rw [hal]; omega), hel, run_sizeOf wx hi0, hal]
  simp [slicedAt, Addr.add, Result.andThen]
theorem results4 {fn : Func} {p q u v : Tmp} {ty : TypeId} (hf : fn.results = #[.cell p ty, .cell q ty, .tmp u, .tmp v]) (tmps : Array Value) (P : Program) (w : World) :
    (results fn tmps).run P w =
      ((asAddr (tmps.getD p undef)).run P w).andThen fun a w₁ => ((loadVar ty a).run P w₁).andThen fun x w₂ => ((asAddr (tmps.getD q undef)).run P w₂).andThen fun b w₃ => ((loadVar ty b).run P w₃).andThen fun y w₄ => .ok (.tuple #[x, y, tmps.getD u undef, tmps.getD v undef]) w₄ := by
  simp only [results, hf]
  simp [Sem.run_bind, Result.andThen]
theorem res4 {fn : Func} {p q u v : Tmp} (hf : fn.results = #[.cell p 40, .cell q 40, .tmp u, .tmp v]) (tmps : Array Value) (w : World) (g h : Nat) (cs ds : Array Value)
    (hg : Bk w g 40 cs) (hh : Bk w h 40 ds) (h1 : cs.size = 16) (h2 : ds.size = 16) (hp : tmps.getD p undef = .pointer (some ⟨g, 0, none⟩)) (hq : tmps.getD q undef = .pointer (some ⟨h, 0, none⟩)) :
    (results fn tmps).run Try.prog w = .ok (.tuple #[.agg cs, .agg ds, tmps.getD u undef, tmps.getD v undef]) w := by
  rw [results4 hf, hp, hq]
  have e1 := run_loadPage w g cs hg h1
  have e2 := run_loadPage w h ds hh h2
  simp [asAddr, Sem.run_pure, Result.andThen, e1, e2]
/-- A load of a page, taken first. -/
theorem held_page {ops : Array Oper} {S : World → Prop} {o : Oper} {a : Act} (y : Operand) (ho : o.op = .load 40 y) (hw : Region.wanted o (yielded ops a.tmps) = true) (g : Nat) (p : Pg)
    (hx : a.eval y = .pointer (some ⟨g, 0, none⟩)) (hS : ∀ w, S w → Bk w g 40 p.cs) : YieldsIf Try.prog ops S o (.agg p.cs) a := by
  refine .inl ⟨hw, fun w h => ?_⟩
  unfold execOp
  simp only [ho, hx, Instr.loadAt, Instr.sureAddr, Sem.run_bind, Sem.run_pure, Result.andThen_ok, run_loadVar_row w g 40 40 p.cs (0, 0) _ (hS w h) Try.underlying40 rfl (by rw [show p.cs.size = 16 from rfl]; kernel_rfl)]
theorem held_move {ops : Array Oper} {S : World → Prop} {o : Oper} {a : Act} (y : Operand) (ho : o.op = .move y) (hw : Region.wanted o (yielded ops a.tmps) = true) : YieldsIf Try.prog ops S o (a.eval y) a :=
  .inl ⟨hw, fun w h => BigFrame.run_move y ho w⟩
theorem held_assign {ops : Array Oper} {S : World → Prop} {o : Oper} {a : Act} (y : Operand) (ho : o.op = .assign y) (hw : Region.wanted o (yielded ops a.tmps) = true) : YieldsIf Try.prog ops S o (a.eval y) a :=
  .inl ⟨hw, fun w h => BigFrame.run_assign y ho w⟩
theorem held_store {ops : Array Oper} {Q : Exit → Act → World → Prop} {K : Act → World → Prop} {i : Nat} {o : Oper} {a : Act} {w : World} (hi : ops[i]? = some o) (x y : Operand) (ho : o.op = .store 40 x y) (hd : o.dst = none) (hw : Region.wanted o (yielded ops a.tmps) = true) (g : Nat) (p q : Pg)
    (hx : a.eval x = .pointer (some ⟨g, 0, none⟩)) (hy : a.eval y = .agg p.cs) (hb : Bk w g 40 q.cs) (h : K a (w.setRow g p.cs)) : wpOp Try.prog ops Q i K a w := by
  unfold wpOp
  simp only [hi, hw, if_true]
  exact .inl (wp_store_row 40 x y ho g p.cs hx hy 40 q.cs hb (by rw [show p.cs.size = 16 from rfl]; kernel_rfl) rfl (by simp [Pg.cs, Value.oneCell']) (by rw [hd]; exact h))
theorem held_take {P : Program} {ops : Array Oper} {Q : Exit → Act → World → Prop} {md : Region.Mode} {S : World → Prop} {i : Nat} {oi : Oper} {v : Value} {fuel : Nat} {listed : Array Bool} {a : Act} {w : World} (d : Nat) (hi : ops[i]? = some oi) (hd : oi.dst = some d)
    (hs : Region.noSelect ops = true) (hf : Region.free md ops listed i = true) (hr : (Region.ready md ops listed).contains i = true)
    (hQ : ∀ c a w, Q (.panic c) (a.put (some d) v) w → Q (.panic c) a w) (hy : YieldsIf P ops S oi v a) (hS : S w)
    (h : wpAnyH P md ops Q S fuel (listed.setIfInBounds i true) (a.put (some d) v) w) : wpAnyH P md ops Q S (fuel + 1) listed a w :=
  wpAnyH_take hi hs hf hr (by rw [hd]; exact hQ) hy hS (by rw [hd]; exact h)
end Go.Proofs.Ytedoechjjcbeeaa
