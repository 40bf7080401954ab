/- Laws of memory and of regions that the packages over stage share: pages, cells, undos, a stage's blocks. -/
import Derived.Test.YtelbioooggnbiaaGreatSpcVol
import Derived.BigQuiet
import Derived.Test.YtelbioooggnbiaaGreatOwn
import Derived.Laws.ResultCell
import Derived.OrdersHeld
import Derived.Deep.RegionLaw
set_option linter.unusedVariables false
set_option linter.unusedSimpArgs false
namespace Go.Proofs.YtelbioooggnbiaaGreat
open Go.RowKit Go.Maps

def blank : Ce := ⟨0, ⟨#[]⟩⟩
theorem blank_ok : blank.ok := .inl ⟨rfl, rfl⟩
theorem putC_ok2 {p : Pg} (h : p.ok) (j : Nat) (c : Ce) (hc : c.ok) : (putC p j c).ok := by
  refine ⟨h.1, fun i hi => ?_⟩
  show (if i = j then c else p.c i).ok
  by_cases e : i = j
  · rw [if_pos e]; exact hc
  · rw [if_neg e]; exact h.2 i hi
section
variable {pg : Nat → Pg} {n : Nat}
theorem Vol.relay {st : Nat → Int} {kd rt : Nat → Nat} {ow : Nat → Option Int} (h : Vol pg n st kd rt ow) (id : Nat) (h2 : 2 ≤ id) (p : Pg) (hp : ow id = some p.s) : Vol (upd pg id p) n st kd rt ow := by
  have := h.lay id h2 p
  rw [hp, if_pos (show (some p.s).isSome = true from rfl)] at this
  have e : put ow id (some p.s) = ow := by
    funext i
    unfold put
    by_cases e : i = id
    · rw [if_pos e, e, hp]
    · rw [if_neg e]
  rwa [e] at this
end
theorem results_ctt {fn : Func} {p u v : Tmp} {ty : TypeId} (h : fn.results = #[.cell p ty, .tmp u, .tmp v]) (tmps : Array Value) (P : Program) (w : World) :
    (results fn tmps).run P w =
      ((asAddr (tmps.getD p undef)).run P w).andThen fun a w₁ => ((loadVar ty a).run P w₁).andThen fun x w₂ => .ok (.tuple #[x, tmps.getD u undef, tmps.getD v undef]) w₂ := by
  simp only [results, h]
  simp [Sem.run_bind, Result.andThen]
theorem results_tct {fn : Func} {p u v : Tmp} {ty : TypeId} (h : fn.results = #[.tmp u, .cell p ty, .tmp v]) (tmps : Array Value) (P : Program) (w : World) :
    (results fn tmps).run P w =
      ((asAddr (tmps.getD p undef)).run P w).andThen fun a w₁ => ((loadVar ty a).run P w₁).andThen fun x w₂ => .ok (.tuple #[tmps.getD u undef, x, tmps.getD v undef]) w₂ := by
  simp only [results, h]
  simp [Sem.run_bind, Result.andThen]
theorem page_ctt {fn : Func} {p u v : Tmp} (hf : fn.results = #[.cell p 38, .tmp u, .tmp v]) (tmps : Array Value) (w : World) (g : Nat) (cs : Array Value) (h : Bk w g 38 cs) (hs : cs.size = 16) (hp : tmps.getD p undef = .pointer (some ⟨g, 0, none⟩)) :
    (results fn tmps).run Tryz.prog w = .ok (.tuple #[.agg cs, tmps.getD u undef, tmps.getD v undef]) w := by
  rw [results_ctt hf, hp]
  have := run_loadPage w g cs h hs
  simp [asAddr, Sem.run_pure, Result.andThen, this]
theorem page_tct {fn : Func} {p u v : Tmp} (hf : fn.results = #[.tmp u, .cell p 38, .tmp v]) (tmps : Array Value) (w : World) (g : Nat) (cs : Array Value) (h : Bk w g 38 cs) (hs : cs.size = 16) (hp : tmps.getD p undef = .pointer (some ⟨g, 0, none⟩)) :
    (results fn tmps).run Tryz.prog w = .ok (.tuple #[tmps.getD u undef, .agg cs, tmps.getD v undef]) w := by
  rw [results_tct hf, hp]
  have := run_loadPage w g cs h hs
  simp [asAddr, Sem.run_pure, Result.andThen, this]
/-- An undo of a cell. -/
structure Ud where
  k : Int
  t : Int
  p : Int
  s : Int
  y : ByteArray
  c : Ce
def Ud.cs (u : Ud) : Array Value := #[.int .i64 u.k, .int .i64 u.t, .int .i64 u.p, .int .i64 u.s, .string u.y, .int .i64 u.c.st, .string u.c.d]
def ud0 : Ud := ⟨0, 0, 0, 0, ⟨#[]⟩, blank⟩
def udC (p s : Int) (c : Ce) : Ud := ⟨1, 0, p, s, ⟨#[]⟩, c⟩
theorem run_loadUd (w : World) (g : Nat) (u : Ud) (h : Bk w g 72 u.cs) : (loadVar 72 ⟨g, 0, none⟩).run Tryz.prog w = .ok (.agg u.cs) w :=
  run_loadVar_row w g 72 72 u.cs (0, 0) _ h Tryz.underlying72 rfl (by rw [show u.cs.size = 7 from rfl]; kernel_rfl)
theorem ud_ct {fn : Func} {p u : Tmp} (hf : fn.results = #[.cell p 72, .tmp u]) (tmps : Array Value) (w : World) (g : Nat) (x : Ud) (h : Bk w g 72 x.cs) (hp : tmps.getD p undef = .pointer (some ⟨g, 0, none⟩)) :
    (results fn tmps).run Tryz.prog w = .ok (.tuple #[.agg x.cs, tmps.getD u undef]) w := by
  rw [results_cell_tmp hf, hp]
  have := run_loadUd w g x h
  simp [asAddr, Sem.run_pure, Result.andThen, this]
theorem ud_tct {fn : Func} {p u v : Tmp} (hf : fn.results = #[.tmp u, .cell p 72, .tmp v]) (tmps : Array Value) (w : World) (g : Nat) (x : Ud) (h : Bk w g 72 x.cs) (hp : tmps.getD p undef = .pointer (some ⟨g, 0, none⟩)) :
    (results fn tmps).run Tryz.prog w = .ok (.tuple #[tmps.getD u undef, .agg x.cs, tmps.getD v undef]) w := by
  rw [results_tct hf, hp]
  have := run_loadUd w g x h
  simp [asAddr, Sem.run_pure, Result.andThen, this]
section
variable {ops : Array Oper} {rest : List Oper} {o : Oper} {a : Act} {w : World} {Q : Exit → Act → World → Prop}
theorem load_ud (hgd : o.guard = none) (x : Operand) (ho : o.op = .load 72 x) (g : Nat) (u : Ud) (hx : a.eval x = .pointer (some ⟨g, 0, none⟩)) (hb : Bk w g 72 u.cs) (h : wpList Tryz.prog ops Q rest (a.put o.dst (.agg u.cs)) w) : wpList Tryz.prog ops Q (o :: rest) a w :=
  wpList_load_row hgd 72 x ho g hx 72 u.cs (0, 0) _ hb Tryz.underlying72 rfl (by rw [show u.cs.size = 7 from rfl]; kernel_rfl) h
theorem store_ud (hgd : o.guard = none) (x y : Operand) (ho : o.op = .store 72 x y) (g : Nat) (u v : Ud) (hx : a.eval x = .pointer (some ⟨g, 0, none⟩)) (hy : a.eval y = .agg u.cs) (hb : Bk w g 72 v.cs) (h : wpList Tryz.prog ops Q rest (a.put o.dst undef) (w.setRow g u.cs)) : wpList Tryz.prog ops Q (o :: rest) a w :=
  wpList_store_row hgd 72 x y ho g u.cs hx hy 72 v.cs hb (by rw [show u.cs.size = 7 from rfl]; kernel_rfl) rfl (by simp [Ud.cs, Value.oneCell']) h
theorem ud_bk {w : World} {g : Nat} {p q : Ud} (hb : Bk w g 72 q.cs) : Bk (w.setRow g p.cs) g 72 p.cs := setRow_heap _ _ _ _ _ _ hb
theorem store_ud_new (hgd : o.guard = none) (x y : Operand) (ho : o.op = .store 72 x y) (u : Ud) (hx : a.eval x = .pointer (some ⟨w.heap.size, 0, none⟩)) (hy : a.eval y = .agg u.cs) (h : wpList Tryz.prog ops Q rest (a.put o.dst undef) (w.alloc (.cells u.cs 72))) : wpList Tryz.prog ops Q (o :: rest) a (w.alloc (.cells ud0.cs 72)) := by
  refine store_ud hgd x y ho w.heap.size u ud0 hx hy (Bk.new _ _ _) ?_
  rw [World.setRow_alloc_new]
  exact h
theorem build_ud0 (hg : o.guard = none) (ho : o.op = .build 72 #[]) (h : wpList Tryz.prog ops Q rest (a.put o.dst (.agg ud0.cs)) w) : wpList Tryz.prog ops Q (o :: rest) a w := by
  refine wpList_plain hg fun K' hK' => ?_
  have hb : (Instr.build 72 #[]).run Tryz.prog w = .ok (.agg ud0.cs) w := by kernel_rfl
  unfold Oper.wp execOp
  simp only [ho, Sem.run_bind, Sem.run_pure, Result.andThen_ok, List.map_toArray, List.map_cons, List.map_nil, hb]
  exact hK' _ _ h
theorem build_udC (hg : o.guard = none) (x y z : Operand) (ho : o.op = .build 72 #[(0, .const (.int .i64 1)), (2, x), (3, y), (5, z)]) (p s : Int) (c : Ce) (hx : a.eval x = .int .i64 p) (hy : a.eval y = .int .i64 s) (hz : a.eval z = .agg #[.int .i64 c.st, .string c.d]) (h : wpList Tryz.prog ops Q rest (a.put o.dst (.agg (udC p s c).cs)) w) : wpList Tryz.prog ops Q (o :: rest) a w := by
  refine wpList_plain hg fun K' hK' => ?_
  have hb : (Instr.build 72 #[(0, .int .i64 1), (2, .int .i64 p), (3, .int .i64 s), (5, .agg #[.int .i64 c.st, .string c.d])]).run Tryz.prog w = .ok (.agg (udC p s c).cs) w := by kernel_rfl
  unfold Oper.wp execOp
  have hc : a.eval (.const (.int .i64 1)) = .int .i64 1 := rfl
  simp only [ho, Sem.run_bind, Sem.run_pure, Result.andThen_ok, List.map_toArray, List.map_cons, List.map_nil, hc, hx, hy, hz, hb]
  exact hK' _ _ h
theorem build_pg0 (hg : o.guard = none) (ho : o.op = .build 38 #[]) (h : wpList Tryz.prog ops Q rest (a.put o.dst (.agg Pg.zero.cs)) w) : wpList Tryz.prog ops Q (o :: rest) a w := by
  refine wpList_plain hg fun K' hK' => ?_
  have hb : (Instr.build 38 #[]).run Tryz.prog w = .ok (.agg Pg.zero.cs) w := by kernel_rfl
  unfold Oper.wp execOp
  simp only [ho, Sem.run_bind, Sem.run_pure, Result.andThen_ok, List.map_toArray, List.map_cons, List.map_nil, hb]
  exact hK' _ _ h
theorem cell_range {w : World} {g : Nat} {p : Pg} (h : Bk w g 38 p.cs) (j : Nat) (hj : j < 6) : w.rangeAt g (4 + j * 2) [.int .i64 (p.c j).st, .string (p.c j).d] := fun i v hv => by
  have hi : i < 2 := (List.getElem?_eq_some_iff.1 hv).1
  rw [h.cell]
  rcases (show i = 0 ∨ i = 1 by omega) with e | e <;> subst e <;> simp at hv <;> subst hv <;> rcases six hj with h | h | h | h | h | h <;> subst h <;> rfl
theorem load_cell_at (hgd : o.guard = none) (x : Operand) (ho : o.op = .load 35 x) (g : Nat) (p : Pg) (j : Nat) (hj : j < 6) (hx : a.eval x = .pointer (some ⟨g, 4 + j * 2, none⟩)) (hb : Bk w g 38 p.cs)
    (h : wpList Tryz.prog ops Q rest (a.put o.dst (.agg #[.int .i64 (p.c j).st, .string (p.c j).d])) w) : wpList Tryz.prog ops Q (o :: rest) a w :=
  wpList_load_mid hgd 35 x ho g (4 + j * 2) hx [.int .i64 (p.c j).st, .string (p.c j).d] _ (cell_range hb j hj) Tryz.underlying35 rfl (by show _ = some 2; kernel_rfl) (by simpa using h)
end
section
variable {ops : Array Oper} {S : World → Prop} {o : Oper} {a : Act}
theorem held_row (ty : TypeId) (d : TypeDesc) (y : Operand) (ho : o.op = .load ty y) (hw : Region.wanted o (yielded ops a.tmps) = true) (g : Nat) (cs : Array Value) (hd : Tryz.prog.underlying ty = some d) (hk : ∀ w, S w → Bk w g ty cs)
    (hx : a.eval y = .pointer (some ⟨g, 0, none⟩)) (hr : ∀ w, Bk w g ty cs → (loadVar ty ⟨g, 0, none⟩).run Tryz.prog w = .ok (.agg cs) w) : YieldsIf Tryz.prog ops S o (.agg cs) a := by
  refine .inl ⟨hw, fun w h => ?_⟩
  unfold execOp
  simp only [ho, hx, Instr.loadAt, Instr.sureAddr, Sem.run_bind, Sem.run_pure, Result.andThen_ok, hr w (hk w h)]
theorem held_page (y : Operand) (ho : o.op = .load 38 y) (hw : Region.wanted o (yielded ops a.tmps) = true) (g : Nat) (p : Pg)
    (hx : a.eval y = .pointer (some ⟨g, 0, none⟩)) (hS : ∀ w, S w → Bk w g 38 p.cs) : YieldsIf Tryz.prog ops S o (.agg p.cs) a :=
  held_row 38 _ y ho hw g p.cs Tryz.underlying38 hS hx fun w h => run_loadPage w g p.cs h rfl
theorem held_ud (y : Operand) (ho : o.op = .load 72 y) (hw : Region.wanted o (yielded ops a.tmps) = true) (g : Nat) (u : Ud)
    (hx : a.eval y = .pointer (some ⟨g, 0, none⟩)) (hS : ∀ w, S w → Bk w g 72 u.cs) : YieldsIf Tryz.prog ops S o (.agg u.cs) a :=
  held_row 72 _ y ho hw g u.cs Tryz.underlying72 hS hx fun w h => run_loadUd w g u h
theorem held_int (y : Operand) (ho : o.op = .load 3 y) (hw : Region.wanted o (yielded ops a.tmps) = true) (g : Nat) (x : Int)
    (hx : a.eval y = .pointer (some ⟨g, 0, none⟩)) (hS : ∀ w, S w → Bk w g 3 #[.int .i64 x]) : YieldsIf Tryz.prog ops S o (.int .i64 x) a := by
  refine .inl ⟨hw, fun w h => ?_⟩
  have hc : w.cell? ⟨g, 0, none⟩ = some (.int .i64 x) := (hS w h).cell 0
  unfold execOp
  simp only [ho, hx]
  go_simp
theorem held_move (y : Operand) (ho : o.op = .move y) (hw : Region.wanted o (yielded ops a.tmps) = true) : YieldsIf Tryz.prog ops S o (a.eval y) a :=
  .inl ⟨hw, fun w h => BigFrame.run_move y ho w⟩
theorem held_assign (y : Operand) (ho : o.op = .assign y) (hw : Region.wanted o (yielded ops a.tmps) = true) : YieldsIf Tryz.prog ops S o (a.eval y) a :=
  .inl ⟨hw, fun w h => BigFrame.run_assign y ho w⟩
end
section
variable {ops : Array Oper} {Q : Exit → Act → World → Prop} {K : Act → World → Prop} {i : Nat} {o : Oper} {a : Act} {w : World}
theorem held_store (hi : ops[i]? = some o) (x y : Operand) (ho : o.op = .store 38 x y) (hd : o.dst = none) (hw : Region.wanted o (yielded ops a.tmps) = true) (g : Nat) (p q : Pg)
    (hx : a.eval x = .pointer (some ⟨g, 0, none⟩)) (hy : a.eval y = .agg p.cs) (hb : Bk w g 38 q.cs) (h : K a (w.setRow g p.cs)) : wpOp Tryz.prog ops Q i K a w := by
  unfold wpOp
  simp only [hi, hw, if_true]
  exact .inl (wp_store_row 38 x y ho g p.cs hx hy 38 q.cs hb (by rw [show p.cs.size = 16 from rfl]; kernel_rfl) rfl (by simp [Pg.cs, Value.oneCell']) (by rw [hd]; exact h))
theorem held_store_ud (hi : ops[i]? = some o) (x y : Operand) (ho : o.op = .store 72 x y) (hd : o.dst = none) (hw : Region.wanted o (yielded ops a.tmps) = true) (g : Nat) (p q : Ud)
    (hx : a.eval x = .pointer (some ⟨g, 0, none⟩)) (hy : a.eval y = .agg p.cs) (hb : Bk w g 72 q.cs) (h : K a (w.setRow g p.cs)) : wpOp Tryz.prog ops Q i K a w := by
  unfold wpOp
  simp only [hi, hw, if_true]
  exact .inl (wp_store_row 72 x y ho g p.cs hx hy 72 q.cs hb (by rw [show p.cs.size = 7 from rfl]; kernel_rfl) rfl (by simp [Ud.cs, Value.oneCell']) (by rw [hd]; exact h))
theorem held_take {P : Program} {md : Region.Mode} {S : World → Prop} {oi : Oper} {v : Value} {fuel : Nat} {listed : Array Bool} (d : Nat) (hi : ops[i]? = some oi) (hd : oi.dst = some d)
    (hs : Region.noSelect ops = true) (hf : Region.free md ops listed i = true) (hr : (Region.ready md ops listed).contains i = true)
    (hQ : ∀ c a w, Q (.panic c) (a.put (some d) v) w → Q (.panic c) a w) (hy : YieldsIf P ops S oi v a) (hS : S w)
    (h : wpAnyH P md ops Q S fuel (listed.setIfInBounds i true) (a.put (some d) v) w) : wpAnyH P md ops Q S (fuel + 1) listed a w :=
  wpAnyH_take hi hs hf hr (by rw [hd]; exact hQ) hy hS (by rw [hd]; exact h)
end
section
variable {P : Program} {ops : Array Oper} {Q : Exit → Act → World → Prop} {K : Act → World → Prop} {i : Nat} {o : Oper} {a : Act} {w : World}
theorem held_run (hi : ops[i]? = some o) (hw : Region.wanted o (yielded ops a.tmps) = true) (d : Nat) (hd : o.dst = some d) (v : Value) (w' : World) (hr : (execOp a.eval o).run P w = .ok (.value v) w') (h : K (a.put (some d) v) w') : wpOp P ops Q i K a w := by
  unfold wpOp
  simp only [hi, hw, if_true]
  refine .inl ?_
  unfold Oper.wp
  rw [hr]
  simp only [Oper.upon, hd]
  exact h
theorem held_wp (hi : ops[i]? = some o) (hw : Region.wanted o (yielded ops a.tmps) = true) (h : o.wp P a w K Q) : wpOp P ops Q i K a w := by
  unfold wpOp
  simp only [hi, hw, if_true]
  exact .inl h
theorem held_call (hi : ops[i]? = some o) (hw : Region.wanted o (yielded ops a.tmps) = true) (d : Nat) (hd : o.dst = some d) (f : FuncId) (args : Array Value) (hr : (execOp a.eval o).run P w = .ok (.enter f args) w)
    (h : Calls P f args w fun e w' => ∃ v, e = .returned v ∧ K (a.put (some d) v) w') : wpOp P ops Q i K a w := by
  refine held_wp hi hw ?_
  unfold Oper.wp
  rw [hr]
  simp only [Oper.upon]
  refine h.mono fun e w' ⟨v, he, hk⟩ => ?_
  subst he
  simp only [hd]
  exact hk
theorem held_ready {md : Region.Mode} {S : World → Prop} {fuel : Nat} {listed : Array Bool} (i : Nat) (hr : Region.ready md ops listed = [i])
    (h : wpOp P ops Q i (fun a' w' => S w' ∧ wpAnyH P md ops Q S fuel (listed.setIfInBounds i true) a' w') a w) : wpAnyH P md ops Q S (fuel + 1) listed a w :=
  wpAnyH_all hr (by simp) fun j hj => by
    obtain rfl : j = i := by simpa using hj
    exact h
end
theorem below_grow0 (w : World) : w.grownBy w none := ⟨rfl, rfl, rfl, Nat.le_refl _, fun _ _ _ => rfl⟩
theorem only_setRow {a w : World} {row : Option Nat} (h : a.grownBy w row) {g : Nat} (hp : a.heap.size ≤ g) (cs : Array Value) : a.grownBy (w.setRow g cs) row :=
  ⟨h.os, h.tape, h.output, by have := h.size; simpa [World.setRow] using this, fun k hk hne => (setRow_other w g k cs (fun e => by omega)).trans (h.block k hk hne)⟩
theorem only_row (w : World) (g : Nat) (cs : Array Value) : w.grownBy (w.setRow g cs) (some g) :=
  ⟨rfl, rfl, rfl, by simp [World.setRow], fun k hk hne => setRow_other w g k cs (fun e => hne (by rw [e]))⟩
theorem only_setCells {a w : World} {row : Option Nat} (h : a.grownBy w row) {g : Nat} (hp : a.heap.size ≤ g) (o : Nat) (l : List Value) : a.grownBy (w.setCells g o l) row := by
  have h2 := setCells_only w g o l
  exact ⟨h2.os.trans h.os, h2.tape.trans h.tape, h2.output.trans h.output, Nat.le_trans h.size h2.size, fun k hk hne => (h2.block k (Nat.lt_of_lt_of_le hk h.size) (fun e => by injection e with e; omega)).trans (h.block k hk hne)⟩
theorem SV.drew {w : World} {B g b gs r N M : Nat} {und pg : Nat → Pg} (h : SV w B g b gs r N M und pg) : SV w.drew B g b gs r N M und pg := h.kept ⟨rfl, rfl, rfl, Nat.le_refl _, fun _ _ => rfl⟩
theorem ce_ghost {c : Ce} (h : c.ok) : (⟨2, c.d⟩ : Ce).ok := by
  rcases h with ⟨h1, h2⟩ | ⟨h1, h2⟩
  · exact .inr ⟨.inr rfl, by show c.d.size ≤ 34; rw [h2]; decide⟩
  · exact .inr ⟨.inr rfl, h2⟩
section
variable {ops : Array Oper} {rest : List Oper} {o : Oper} {a : Act} {w : World} {Q : Exit → Act → World → Prop}
theorem load_ce (hgd : o.guard = none) (x : Operand) (ho : o.op = .load 35 x) (g : Nat) (st : Int) (d : ByteArray) (hx : a.eval x = .pointer (some ⟨g, 0, none⟩)) (hb : Bk w g 35 #[.int .i64 st, .string d]) (h : wpList Tryz.prog ops Q rest (a.put o.dst (.agg #[.int .i64 st, .string d])) w) : wpList Tryz.prog ops Q (o :: rest) a w :=
  wpList_load_row hgd 35 x ho g hx 35 #[.int .i64 st, .string d] (0, 0) _ hb Tryz.underlying35 rfl (by show _ = some 2; kernel_rfl) h
theorem build_ce (hg : o.guard = none) (k : Int) (x : Operand) (ho : o.op = .build 35 #[(0, .const (.int .i64 k)), (1, x)]) (d : ByteArray) (hx : a.eval x = .string d) (h : wpList Tryz.prog ops Q rest (a.put o.dst (.agg #[.int .i64 k, .string d])) w) : wpList Tryz.prog ops Q (o :: rest) a w := by
  refine wpList_plain hg fun K' hK' => ?_
  have hb : (Instr.build 35 #[(0, .int .i64 k), (1, .string d)]).run Tryz.prog w = .ok (.agg #[.int .i64 k, .string d]) w := by kernel_rfl
  unfold Oper.wp execOp
  have hc : a.eval (.const (.int .i64 k)) = .int .i64 k := rfl
  simp only [ho, Sem.run_bind, Sem.run_pure, Result.andThen_ok, List.map_toArray, List.map_cons, List.map_nil, hc, hx, hb]
  exact hK' _ _ h
theorem still_build_ce {Q : Act → Prop} (hgd : o.guard = none) (k : Int) (x : Operand) (ho : o.op = .build 35 #[(0, .const (.int .i64 k)), (1, x)]) (d : ByteArray) (hx : a.eval x = .string d)
    (h : wpStill Tryz.prog ops w Q rest (a.put o.dst (.agg #[.int .i64 k, .string d]))) : wpStill Tryz.prog ops w Q (o :: rest) a := by
  refine wpStill_step fun K hK => ?_
  have hw : Region.wanted o (yielded ops a.tmps) = true := by simp [Region.wanted, hgd]
  rw [if_pos hw]
  have hb : (Instr.build 35 #[(0, .int .i64 k), (1, .string d)]).run Tryz.prog w = .ok (.agg #[.int .i64 k, .string d]) w := by kernel_rfl
  have hc : a.eval (.const (.int .i64 k)) = .int .i64 k := rfl
  unfold Oper.still execOp
  simp only [ho, Sem.run_bind, Sem.run_pure, Result.andThen_ok, List.map_toArray, List.map_cons, List.map_nil, hc, hx, hb]
  exact ⟨rfl, hK _ h⟩
end
section
variable {ops : Array Oper} {Q : Exit → Act → World → Prop} {K : Act → World → Prop} {i : Nat} {o : Oper} {a : Act} {w : World}
theorem held_store_int (hi : ops[i]? = some o) (x y : Operand) (ho : o.op = .store 3 x y) (hd : o.dst = none) (hw : Region.wanted o (yielded ops a.tmps) = true) (g : Nat) (p q : Int)
    (hx : a.eval x = .pointer (some ⟨g, 0, none⟩)) (hy : a.eval y = .int .i64 p) (hb : Bk w g 3 #[.int .i64 q]) (h : K a (w.setCell ⟨g, 0, none⟩ (.int .i64 p))) : wpOp Tryz.prog ops Q i K a w := by
  have c0 : w.cell? ⟨g, 0, none⟩ = some (.int .i64 q) := hb.cell 0
  have f0 : w.frozen? ⟨g, 0, none⟩ = false := hb.fz 0
  refine held_wp hi hw ?_
  unfold Oper.wp execOp
  simp only [ho, hx, hy]
  go_simp
  exact h
end
theorem SV.far {w w' w2 : World} {B g b gs r N M : Nat} {und pg : Nat → Pg} (h : SV w B g b gs r N M und pg) {A F : Nat} (h1 : w.grownBy w2 (some A)) (h2 : w2.grownBy w' (some F)) (hA : A ≠ g ∧ A ≠ b ∧ A ≠ gs ∧ A ≠ r) (hF : F ≠ g ∧ F ≠ b ∧ F ≠ gs ∧ F ≠ r) : SV w' B g b gs r N M und pg :=
  (h.grown h1 (fun k hk => by cases hk; exact hA)).grown h2 (fun k hk => by cases hk; exact hF)
theorem bk_at {w : World} {k : Nat} (h : w.heap.size = k) (t : TypeId) (cs : Array Value) : Bk (w.alloc (.cells cs t)) k t cs := h ▸ Bk.new w t cs
def pz : Nat → Pg := fun _ => Pg.zero
theorem SV.b_ge {w : World} {B g b gs r N M : Nat} {und pg : Nat → Pg} (h : SV w B g b gs r N M und pg) : B ≤ b := h.bb
theorem sv_zero {w : World} {B g b m gs r N : Nat} (h : SS w B g b m gs r (List.replicate N Pg.zero) []) : SV w B g b gs r N m pz pz := by
  have := sv_made (und := pz) h (fun id hid => by
    rw [List.length_replicate] at hid
    rw [List.getD_eq_getElem?_getD, List.getElem?_replicate, if_pos hid]
    show pgB Pg.zero Pg.zero = true
    exact pgB_self _)
  rw [List.length_replicate] at this
  exact this
theorem ow_far {w : World} {base : Nat} {e : TypeId} {size : Nat} {v : Value} {n : Nat} {xs : List Value} (h : w.ownsRow base e size v n xs) {p : Addr} (hp : p.block < base) (u : Value) : (w.setCell p u).ownsRow base e size v n xs :=
  ow_same h fun k hk => Below.heap_setCell w p u k (by have := (ow_blk h hk).1; omega)
def landed (er : Int) (und pg : Nat → Pg) : Nat → Pg := if er = 0 then pg else und
/-- All blocks that stood stand, but for two. -/
def Oth (w w' : World) (b r : Nat) : Prop := w.heap.size ≤ w'.heap.size ∧ ∀ q, q < w.heap.size → q ≠ b → q ≠ r → w'.heap[q]? = w.heap[q]?
theorem Oth.below {w w1 : World} {b r : Nat} (hb : Below w.heap.size w w1) : Oth w w1 b r := ⟨hb.size, fun q hq _ _ => hb.block q hq⟩
theorem Oth.grown {w w1 w2 : World} {b r k : Nat} (h : Oth w w1 b r) (hg : w1.grownBy w2 (some k)) (hk : k = b ∨ k = r) : Oth w w2 b r :=
  ⟨Nat.le_trans h.1 hg.size, fun q hq h1 h2 => (hg.block q (Nat.lt_of_lt_of_le hq h.1) (fun e => by injection e with e; rcases hk with hk | hk <;> omega)).trans (h.2 q hq h1 h2)⟩
theorem SV.row {w : World} {B g b gs r N M : Nat} {und pg : Nat → Pg} (h : SV w B g b gs r N M und pg) {k : Nat} (hk : k ≠ g ∧ k ≠ b ∧ k ≠ gs ∧ k ≠ r) (cs : Array Value) : SV (w.setRow k cs) B g b gs r N M und pg :=
  h.grown (only_row w k cs) (fun j hj => by cases hj; exact hk)
theorem Oth.trans {w w1 w2 : World} {b r : Nat} (h : Oth w w1 b r) (k : Oth w1 w2 b r) : Oth w w2 b r :=
  ⟨Nat.le_trans h.1 k.1, fun q hq h1 h2 => (k.2 q (Nat.lt_of_lt_of_le hq h.1) h1 h2).trans (h.2 q hq h1 h2)⟩
theorem Oth.row {w w1 : World} {b r k : Nat} (h : Oth w w1 b r) (hk : w.heap.size ≤ k) (cs : Array Value) : Oth w (w1.setRow k cs) b r :=
  ⟨by have := h.1; simpa [World.setRow] using this, fun q hq h1 h2 => (setRow_other _ _ _ _ (by omega)).trans (h.2 q hq h1 h2)⟩
theorem Oth.bk {w w1 : World} {b r : Nat} (h : Oth w w1 b r) {k : Nat} {t : TypeId} {cs : Array Value} (hk : Bk w k t cs) (h1 : k ≠ b) (h2 : k ≠ r) : Bk w1 k t cs := (h.2 k hk.lt h1 h2).trans hk
theorem landed_zero (und pg : Nat → Pg) : landed 0 und pg = pg := if_pos rfl
end Go.Proofs.YtelbioooggnbiaaGreat
