/- A record sought: the visitor, the walk, seek. Laws for what the heap's functions load, store, build and hand back: cells, undos, pages. Regions that draw their order and store whole values: one lemma an operation. seek. -/
import Derived.Test.YtdhfcjplnbnkdaaHpWalk
import Derived.BigQuiet
import Derived.Test.YtdhfcjplnbnkdaaOwn
import Derived.Laws.ResultCell
import Derived.OrdersHeld
import Derived.Deep.RegionLaw
set_option linter.unusedVariables false
set_option linter.unusedSimpArgs false
namespace Go.Proofs.Ytdhfcjplnbnkdaa
open Go.RowKit Go.Maps

/-- Is it here? -/
def hitP (c : Nat) (p : Pg) (id : Int) : Prop := 0 ≤ id ∧ c = id.toNat / 8 ∧ id.toNat % 8 < 6 ∧ (p.c (id.toNat % 8)).st = 1
open Classical in
set_option maxRecDepth 100000 in
set_option maxHeartbeats 4000000 in
theorem visit_seek (c : Nat) (p pz0 : Pg) (id : Int) (hid : -9223372036854775808 ≤ id ∧ id ≤ 9223372036854775807) (A I S F : Nat) (bz : Bool) (w : World)
    (hA : Bk w A 40 pz0.cs) (hI : Bk w I 3 #[.int .i64 id]) (hS : Bk w S 3 #[.int .i64 (id.tmod 8)]) (hF : Bk w F 4 #[.bool bz]) :
    Calls Try.prog 52 #[.int .i64 c, .agg p.cs, .pointer (some ⟨A, 0, none⟩), .pointer (some ⟨I, 0, none⟩), .pointer (some ⟨S, 0, none⟩), .pointer (some ⟨F, 0, none⟩)] w fun e w' =>
      e = .returned (.bool (decide (hitP c p id))) ∧ Bk w' A 40 p.cs ∧ Bk w' F 4 #[.bool (decide (hitP c p id))] ∧ ∃ w1, w.grownBy w1 (some A) ∧ w1.grownBy w' (some F) := by
  have K := Lib.hid (Bk.new w 40 p.cs)
  have A0 := Lib.hid (hA.alloc (.cells p.cs 40))
  have I0 := Lib.hid (hI.alloc (.cells p.cs 40))
  have S0 := Lib.hid (hS.alloc (.cells p.cs 40))
  have F0 := Lib.hid (hF.alloc (.cells p.cs 40))
  obtain ⟨res, hres⟩ : ∃ res, res = decide (hitP c p id) := ⟨_, rfl⟩
  rw [← hres]
  have HR := Lib.hid hres
  have HID := Lib.hid hid
  have GA := Lib.hid (show w.grownBy (w.alloc (.cells p.cs 40)) none from World.grownBy_alloc w _ none)
  have NE := Lib.hid (show A ≠ w.heap.size ∧ F ≠ w.heap.size from ⟨by have := Bk.lt hA; omega, by have := Bk.lt hF; omega⟩)
  have AF := Lib.hid (Bk.ne_ hA hF (by decide))
  have AI := Lib.hid (Bk.ne_ hA hI (by decide))
  have AS := Lib.hid (Bk.ne_ hA hS (by decide))
  clear hA hI hS hF hres hid
  go_enter Try.func52, Try.ntmps52
  go_upto_region 1 with fail
  generalize w.alloc (.cells p.cs 40) = w0 at *
  obtain ⟨G, hG⟩ : ∃ G, G = w.heap.size := ⟨_, rfl⟩
  rw [← hG] at K NE ⊢
  clear hG
  go_upto_region 2 with (first | (refine load_page rfl _ rfl G p rfl K.out ?_) | (refine store_page rfl _ _ rfl A p pz0 rfl rfl A0.out ?_))
  have GB := Lib.hid (show w.grownBy (w0.setRow A p.cs) (some A) from ⟨GA.out.os, GA.out.tape, GA.out.output, by have := GA.out.size; simpa [World.setRow] using this, fun k hk hne => (setRow_other w0 A k p.cs (fun e => hne (by rw [e]))).trans (GA.out.block k hk (by simp))⟩)
  have A1 := Lib.hid (row_bk (p := p) A0.out)
  have I1 := Lib.hid (row_far (cs := p.cs) I0.out AI.out.symm)
  have S1 := Lib.hid (row_far (cs := p.cs) S0.out AS.out.symm)
  have F1 := Lib.hid (row_far (cs := p.cs) F0.out AF.out.symm)
  have G1 := Lib.hid (row_far (cs := p.cs) K.out NE.out.1.symm)
  generalize w0.setRow A p.cs = w1 at *
  clear A0 I0 S0 F0 K GA
  have i0 : w1.cell? ⟨I, 0, none⟩ = some (.int .i64 id) := I1.out.cell 0
  have f0 : w1.frozen? ⟨F, 0, none⟩ = false := F1.out.fz 0
  have f1 : w1.cell? ⟨F, 0, none⟩ = some (.bool bz) := F1.out.cell 0
  have FIN := Lib.hid (fun (bb : Bool) (hb : bb = res) => show Bk (w1.setCell ⟨F, 0, none⟩ (.bool bb)) A 40 p.cs ∧ Bk (w1.setCell ⟨F, 0, none⟩ (.bool bb)) F 4 #[.bool bb] ∧ ∃ w2, w.grownBy w2 (some A) ∧ w2.grownBy (w1.setCell ⟨F, 0, none⟩ (.bool bb)) (some F) from
    ⟨A1.out.far AF.out _, F1.out.set 0 (.bool bb), w1, GB.out, only_set ⟨rfl, rfl, rfl, Nat.le_refl _, fun _ _ _ => rfl⟩ 0 _⟩)
  by_cases h0 : 0 ≤ id
  · obtain ⟨k, rfl⟩ : ∃ k : Nat, id = (k : Int) := ⟨id.toNat, by omega⟩
    have hm : (k : Int).tmod 8 = ((k % 8 : Nat) : Int) := by rw [Int.tmod_eq_emod_of_nonneg (by omega)]; rfl
    have hd : (k : Int).tdiv 8 = ((k / 8 : Nat) : Int) := by rw [Int.tdiv_eq_ediv_of_nonneg (by omega)]; rfl
    rw [hm] at S1
    have s0 : w1.cell? ⟨S, 0, none⟩ = some (.int .i64 (k % 8 : Nat)) := S1.out.cell 0
    obtain ⟨q, hq⟩ : ∃ q, q = k / 8 := ⟨_, rfl⟩
    obtain ⟨s, hs⟩ : ∃ s, s = k % 8 := ⟨_, rfl⟩
    rw [← hq] at hd
    rw [← hs] at s0
    have R := Lib.hid (show res = decide (c = q ∧ s < 6 ∧ (p.c s).st = 1) by
      rw [HR.out]
      unfold hitP
      rw [Int.toNat_natCast, ← hq, ← hs]
      simp)
    have wq : wrap64 (q : Int) = (q : Int) := by have := HID.out; unfold wrap64; omega
    clear hm hq hs S1
    by_cases hc : c = q
    · have hcb : ((c : Int) == (q : Int)) = true := by simp [hc]
      by_cases h6 : s < 6
      · have h6b : (s : Int) < 6 := by omega
        have x0 : w1.cell? ⟨G, 4 + s * 2, none⟩ = some (.int .i64 (p.c s).st) := by
          rw [G1.out.cell]; rcases six h6 with h | h | h | h | h | h <;> rw [h] <;> rfl
        obtain ⟨st, hst⟩ : ∃ st, st = (p.c s).st := ⟨_, rfl⟩
        rw [← hst] at x0
        by_cases h1 : st = 1
        · have h1b : (st == 1) = true := by simp [h1]
          have RT := Lib.hid (FIN.out true (by rw [R.out]; exact (decide_eq_true ⟨hc, h6, by rw [← hst]; exact h1⟩).symm))
          have RR := Lib.hid (show res = true by rw [R.out]; exact decide_eq_true ⟨hc, h6, by rw [← hst]; exact h1⟩)
          clear hst hc
          go_wp2
          go_ret
          exact ⟨by rw [RR.out]; rfl, by rw [RR.out]; exact RT.out⟩
        · have h1b : (st == 1) = false := by simp [h1]
          have RT := Lib.hid (FIN.out false (by rw [R.out]; exact (decide_eq_false (fun h => h1 (by rw [hst]; exact h.2.2))).symm))
          have RR := Lib.hid (show res = false by rw [R.out]; exact decide_eq_false (fun h => h1 (by rw [hst]; exact h.2.2)))
          clear hst hc
          go_wp2
          go_ret
          exact ⟨by rw [RR.out]; rfl, by rw [RR.out]; exact RT.out⟩
      · have h6b : ¬ (s : Int) < 6 := by omega
        have RT := Lib.hid (FIN.out false (by rw [R.out]; exact (decide_eq_false (fun h => h6 h.2.1)).symm))
        have RR := Lib.hid (show res = false by rw [R.out]; exact decide_eq_false (fun h => h6 h.2.1))
        clear hc
        go_wp2
        go_ret
        exact ⟨by rw [RR.out]; rfl, by rw [RR.out]; exact RT.out⟩
    · have hcb : ((c : Int) == (q : Int)) = false := by simp; omega
      have RT := Lib.hid (FIN.out false (by rw [R.out]; exact (decide_eq_false (fun h => hc h.1)).symm))
      have RR := Lib.hid (show res = false by rw [R.out]; exact decide_eq_false (fun h => hc h.1))
      skip
      go_wp2
      go_ret
      exact ⟨by rw [RR.out]; rfl, by rw [RR.out]; exact RT.out⟩
  · have RT := Lib.hid (FIN.out false (by rw [HR.out]; exact (decide_eq_false (fun h => h0 h.1)).symm))
    have RR := Lib.hid (show res = false by rw [HR.out]; exact decide_eq_false (fun h => h0 h.1))
    skip
    go_wp2
    go_ret
    exact ⟨by rw [RR.out]; rfl, by rw [RR.out]; exact RT.out⟩
end Go.Proofs.Ytdhfcjplnbnkdaa
namespace Go.Proofs.Ytdhfcjplnbnkdaa
open Go.RowKit Go.Maps

theorem results_ctt {fn : Func} {p u v : Tmp} {ty : TypeId} (h : fn.results = #[.cell p ty, .tmp u, .tmp v]) (tmps : Array Value) (P : Program) (w : World) :
    (results fn tmps).run P w =
      ((asAddr (tmps.getD p undef)).run P w).andThen fun a w₁ => ((loadVar ty a).run P w₁).andThen fun x w₂ => .ok (.tuple #[x, tmps.getD u undef, tmps.getD v undef]) w₂ := by
  simp only [results, h]
  simp [Sem.run_bind, Result.andThen]
theorem results_tct {fn : Func} {p u v : Tmp} {ty : TypeId} (h : fn.results = #[.tmp u, .cell p ty, .tmp v]) (tmps : Array Value) (P : Program) (w : World) :
    (results fn tmps).run P w =
      ((asAddr (tmps.getD p undef)).run P w).andThen fun a w₁ => ((loadVar ty a).run P w₁).andThen fun x w₂ => .ok (.tuple #[tmps.getD u undef, x, tmps.getD v undef]) w₂ := by
  simp only [results, h]
  simp [Sem.run_bind, Result.andThen]
theorem page_ctt {fn : Func} {p u v : Tmp} (hf : fn.results = #[.cell p 40, .tmp u, .tmp v]) (tmps : Array Value) (w : World) (g : Nat) (cs : Array Value) (h : Bk w g 40 cs) (hs : cs.size = 16) (hp : tmps.getD p undef = .pointer (some ⟨g, 0, none⟩)) :
    (results fn tmps).run Try.prog w = .ok (.tuple #[.agg cs, tmps.getD u undef, tmps.getD v undef]) w := by
  rw [results_ctt hf, hp]
  have := run_loadPage w g cs h hs
  simp [asAddr, Sem.run_pure, Result.andThen, this]
theorem page_tct {fn : Func} {p u v : Tmp} (hf : fn.results = #[.tmp u, .cell p 40, .tmp v]) (tmps : Array Value) (w : World) (g : Nat) (cs : Array Value) (h : Bk w g 40 cs) (hs : cs.size = 16) (hp : tmps.getD p undef = .pointer (some ⟨g, 0, none⟩)) :
    (results fn tmps).run Try.prog w = .ok (.tuple #[tmps.getD u undef, .agg cs, tmps.getD v undef]) w := by
  rw [results_tct hf, hp]
  have := run_loadPage w g cs h hs
  simp [asAddr, Sem.run_pure, Result.andThen, this]
/-- An undo of a cell. -/
structure Ud where
  k : Int
  t : Int
  p : Int
  s : Int
  y : ByteArray
  c : Ce
def Ud.cs (u : Ud) : Array Value := #[.int .i64 u.k, .int .i64 u.t, .int .i64 u.p, .int .i64 u.s, .string u.y, .int .i64 u.c.st, .string u.c.d]
def ud0 : Ud := ⟨0, 0, 0, 0, ⟨#[]⟩, blank⟩
def udC (p s : Int) (c : Ce) : Ud := ⟨1, 0, p, s, ⟨#[]⟩, c⟩
theorem run_loadUd (w : World) (g : Nat) (u : Ud) (h : Bk w g 45 u.cs) : (loadVar 45 ⟨g, 0, none⟩).run Try.prog w = .ok (.agg u.cs) w :=
  run_loadVar_row w g 45 45 u.cs (0, 0) _ h Try.underlying45 rfl (by rw [show u.cs.size = 7 from rfl]; kernel_rfl)
theorem ud_ct {fn : Func} {p u : Tmp} (hf : fn.results = #[.cell p 45, .tmp u]) (tmps : Array Value) (w : World) (g : Nat) (x : Ud) (h : Bk w g 45 x.cs) (hp : tmps.getD p undef = .pointer (some ⟨g, 0, none⟩)) :
    (results fn tmps).run Try.prog w = .ok (.tuple #[.agg x.cs, tmps.getD u undef]) w := by
  rw [results_cell_tmp hf, hp]
  have := run_loadUd w g x h
  simp [asAddr, Sem.run_pure, Result.andThen, this]
theorem ud_tct {fn : Func} {p u v : Tmp} (hf : fn.results = #[.tmp u, .cell p 45, .tmp v]) (tmps : Array Value) (w : World) (g : Nat) (x : Ud) (h : Bk w g 45 x.cs) (hp : tmps.getD p undef = .pointer (some ⟨g, 0, none⟩)) :
    (results fn tmps).run Try.prog w = .ok (.tuple #[tmps.getD u undef, .agg x.cs, tmps.getD v undef]) w := by
  rw [results_tct hf, hp]
  have := run_loadUd w g x h
  simp [asAddr, Sem.run_pure, Result.andThen, this]
section
variable {ops : Array Oper} {rest : List Oper} {o : Oper} {a : Act} {w : World} {Q : Exit → Act → World → Prop}
theorem load_ud (hgd : o.guard = none) (x : Operand) (ho : o.op = .load 45 x) (g : Nat) (u : Ud) (hx : a.eval x = .pointer (some ⟨g, 0, none⟩)) (hb : Bk w g 45 u.cs) (h : wpList Try.prog ops Q rest (a.put o.dst (.agg u.cs)) w) : wpList Try.prog ops Q (o :: rest) a w :=
  wpList_load_row hgd 45 x ho g hx 45 u.cs (0, 0) _ hb Try.underlying45 rfl (by rw [show u.cs.size = 7 from rfl]; kernel_rfl) h
theorem store_ud (hgd : o.guard = none) (x y : Operand) (ho : o.op = .store 45 x y) (g : Nat) (u v : Ud) (hx : a.eval x = .pointer (some ⟨g, 0, none⟩)) (hy : a.eval y = .agg u.cs) (hb : Bk w g 45 v.cs) (h : wpList Try.prog ops Q rest (a.put o.dst undef) (w.setRow g u.cs)) : wpList Try.prog ops Q (o :: rest) a w :=
  wpList_store_row hgd 45 x y ho g u.cs hx hy 45 v.cs hb (by rw [show u.cs.size = 7 from rfl]; kernel_rfl) rfl (by simp [Ud.cs, Value.oneCell']) h
theorem ud_bk {w : World} {g : Nat} {p q : Ud} (hb : Bk w g 45 q.cs) : Bk (w.setRow g p.cs) g 45 p.cs := setRow_heap _ _ _ _ _ _ hb
theorem store_ud_new (hgd : o.guard = none) (x y : Operand) (ho : o.op = .store 45 x y) (u : Ud) (hx : a.eval x = .pointer (some ⟨w.heap.size, 0, none⟩)) (hy : a.eval y = .agg u.cs) (h : wpList Try.prog ops Q rest (a.put o.dst undef) (w.alloc (.cells u.cs 45))) : wpList Try.prog ops Q (o :: rest) a (w.alloc (.cells ud0.cs 45)) := by
  refine store_ud hgd x y ho w.heap.size u ud0 hx hy (Bk.new _ _ _) ?_
  rw [World.setRow_alloc_new]
  exact h
theorem build_ud0 (hg : o.guard = none) (ho : o.op = .build 45 #[]) (h : wpList Try.prog ops Q rest (a.put o.dst (.agg ud0.cs)) w) : wpList Try.prog ops Q (o :: rest) a w := by
  refine wpList_plain hg fun K' hK' => ?_
  have hb : (Instr.build 45 #[]).run Try.prog w = .ok (.agg ud0.cs) w := by kernel_rfl
  unfold Oper.wp execOp
  simp only [ho, Sem.run_bind, Sem.run_pure, Result.andThen_ok, List.map_toArray, List.map_cons, List.map_nil, hb]
  exact hK' _ _ h
theorem build_udC (hg : o.guard = none) (x y z : Operand) (ho : o.op = .build 45 #[(0, .const (.int .i64 1)), (2, x), (3, y), (5, z)]) (p s : Int) (c : Ce) (hx : a.eval x = .int .i64 p) (hy : a.eval y = .int .i64 s) (hz : a.eval z = .agg #[.int .i64 c.st, .string c.d]) (h : wpList Try.prog ops Q rest (a.put o.dst (.agg (udC p s c).cs)) w) : wpList Try.prog ops Q (o :: rest) a w := by
  refine wpList_plain hg fun K' hK' => ?_
  have hb : (Instr.build 45 #[(0, .int .i64 1), (2, .int .i64 p), (3, .int .i64 s), (5, .agg #[.int .i64 c.st, .string c.d])]).run Try.prog w = .ok (.agg (udC p s c).cs) w := by kernel_rfl
  unfold Oper.wp execOp
  have hc : a.eval (.const (.int .i64 1)) = .int .i64 1 := rfl
  simp only [ho, Sem.run_bind, Sem.run_pure, Result.andThen_ok, List.map_toArray, List.map_cons, List.map_nil, hc, hx, hy, hz, hb]
  exact hK' _ _ h
theorem build_pg0 (hg : o.guard = none) (ho : o.op = .build 40 #[]) (h : wpList Try.prog ops Q rest (a.put o.dst (.agg Pg.zero.cs)) w) : wpList Try.prog ops Q (o :: rest) a w := by
  refine wpList_plain hg fun K' hK' => ?_
  have hb : (Instr.build 40 #[]).run Try.prog w = .ok (.agg Pg.zero.cs) w := by kernel_rfl
  unfold Oper.wp execOp
  simp only [ho, Sem.run_bind, Sem.run_pure, Result.andThen_ok, List.map_toArray, List.map_cons, List.map_nil, hb]
  exact hK' _ _ h
theorem build_pgH (hg : o.guard = none) (x : Operand) (ho : o.op = .build 40 #[(0, .const (.int .i64 3)), (2, x)]) (hx : a.eval x = .int .i64 1) (h : wpList Try.prog ops Q rest (a.put o.dst (.agg pgK3.cs)) w) : wpList Try.prog ops Q (o :: rest) a w := by
  refine wpList_plain hg fun K' hK' => ?_
  have hb : (Instr.build 40 #[(0, .int .i64 3), (2, .int .i64 1)]).run Try.prog w = .ok (.agg pgK3.cs) w := by kernel_rfl
  unfold Oper.wp execOp
  have hc : a.eval (.const (.int .i64 3)) = .int .i64 3 := rfl
  simp only [ho, Sem.run_bind, Sem.run_pure, Result.andThen_ok, List.map_toArray, List.map_cons, List.map_nil, hx, hc, hb]
  exact hK' _ _ h
theorem cell_range {w : World} {g : Nat} {p : Pg} (h : Bk w g 40 p.cs) (j : Nat) (hj : j < 6) : w.rangeAt g (4 + j * 2) [.int .i64 (p.c j).st, .string (p.c j).d] := fun i v hv => by
  have hi : i < 2 := (List.getElem?_eq_some_iff.1 hv).1
  rw [h.cell]
  rcases (show i = 0 ∨ i = 1 by omega) with e | e <;> subst e <;> simp at hv <;> subst hv <;> rcases six hj with h | h | h | h | h | h <;> subst h <;> rfl
theorem load_cell_at (hgd : o.guard = none) (x : Operand) (ho : o.op = .load 37 x) (g : Nat) (p : Pg) (j : Nat) (hj : j < 6) (hx : a.eval x = .pointer (some ⟨g, 4 + j * 2, none⟩)) (hb : Bk w g 40 p.cs)
    (h : wpList Try.prog ops Q rest (a.put o.dst (.agg #[.int .i64 (p.c j).st, .string (p.c j).d])) w) : wpList Try.prog ops Q (o :: rest) a w :=
  wpList_load_mid hgd 37 x ho g (4 + j * 2) hx [.int .i64 (p.c j).st, .string (p.c j).d] _ (cell_range hb j hj) Try.underlying37 rfl (by show _ = some 2; kernel_rfl) (by simpa using h)
end
end Go.Proofs.Ytdhfcjplnbnkdaa
namespace Go.Proofs.Ytdhfcjplnbnkdaa
open Go.RowKit Go.Maps

section
variable {ops : Array Oper} {S : World → Prop} {o : Oper} {a : Act}
theorem held_row (ty : TypeId) (d : TypeDesc) (y : Operand) (ho : o.op = .load ty y) (hw : Region.wanted o (yielded ops a.tmps) = true) (g : Nat) (cs : Array Value) (hd : Try.prog.underlying ty = some d) (hk : ∀ w, S w → Bk w g ty cs)
    (hx : a.eval y = .pointer (some ⟨g, 0, none⟩)) (hr : ∀ w, Bk w g ty cs → (loadVar ty ⟨g, 0, none⟩).run Try.prog w = .ok (.agg cs) w) : YieldsIf Try.prog ops S o (.agg cs) a := by
  refine .inl ⟨hw, fun w h => ?_⟩
  unfold execOp
  simp only [ho, hx, Instr.loadAt, Instr.sureAddr, Sem.run_bind, Sem.run_pure, Result.andThen_ok, hr w (hk w h)]
theorem held_page (y : Operand) (ho : o.op = .load 40 y) (hw : Region.wanted o (yielded ops a.tmps) = true) (g : Nat) (p : Pg)
    (hx : a.eval y = .pointer (some ⟨g, 0, none⟩)) (hS : ∀ w, S w → Bk w g 40 p.cs) : YieldsIf Try.prog ops S o (.agg p.cs) a :=
  held_row 40 _ y ho hw g p.cs Try.underlying40 hS hx fun w h => run_loadPage w g p.cs h rfl
theorem held_ud (y : Operand) (ho : o.op = .load 45 y) (hw : Region.wanted o (yielded ops a.tmps) = true) (g : Nat) (u : Ud)
    (hx : a.eval y = .pointer (some ⟨g, 0, none⟩)) (hS : ∀ w, S w → Bk w g 45 u.cs) : YieldsIf Try.prog ops S o (.agg u.cs) a :=
  held_row 45 _ y ho hw g u.cs Try.underlying45 hS hx fun w h => run_loadUd w g u h
theorem held_int (y : Operand) (ho : o.op = .load 3 y) (hw : Region.wanted o (yielded ops a.tmps) = true) (g : Nat) (x : Int)
    (hx : a.eval y = .pointer (some ⟨g, 0, none⟩)) (hS : ∀ w, S w → Bk w g 3 #[.int .i64 x]) : YieldsIf Try.prog ops S o (.int .i64 x) a := by
  refine .inl ⟨hw, fun w h => ?_⟩
  have hc : w.cell? ⟨g, 0, none⟩ = some (.int .i64 x) := (hS w h).cell 0
  unfold execOp
  simp only [ho, hx]
  go_simp
theorem held_move (y : Operand) (ho : o.op = .move y) (hw : Region.wanted o (yielded ops a.tmps) = true) : YieldsIf Try.prog ops S o (a.eval y) a :=
  .inl ⟨hw, fun w h => BigFrame.run_move y ho w⟩
theorem held_assign (y : Operand) (ho : o.op = .assign y) (hw : Region.wanted o (yielded ops a.tmps) = true) : YieldsIf Try.prog ops S o (a.eval y) a :=
  .inl ⟨hw, fun w h => BigFrame.run_assign y ho w⟩
end
section
variable {ops : Array Oper} {Q : Exit → Act → World → Prop} {K : Act → World → Prop} {i : Nat} {o : Oper} {a : Act} {w : World}
theorem held_store (hi : ops[i]? = some o) (x y : Operand) (ho : o.op = .store 40 x y) (hd : o.dst = none) (hw : Region.wanted o (yielded ops a.tmps) = true) (g : Nat) (p q : Pg)
    (hx : a.eval x = .pointer (some ⟨g, 0, none⟩)) (hy : a.eval y = .agg p.cs) (hb : Bk w g 40 q.cs) (h : K a (w.setRow g p.cs)) : wpOp Try.prog ops Q i K a w := by
  unfold wpOp
  simp only [hi, hw, if_true]
  exact .inl (wp_store_row 40 x y ho g p.cs hx hy 40 q.cs hb (by rw [show p.cs.size = 16 from rfl]; kernel_rfl) rfl (by simp [Pg.cs, Value.oneCell']) (by rw [hd]; exact h))
theorem held_store_ud (hi : ops[i]? = some o) (x y : Operand) (ho : o.op = .store 45 x y) (hd : o.dst = none) (hw : Region.wanted o (yielded ops a.tmps) = true) (g : Nat) (p q : Ud)
    (hx : a.eval x = .pointer (some ⟨g, 0, none⟩)) (hy : a.eval y = .agg p.cs) (hb : Bk w g 45 q.cs) (h : K a (w.setRow g p.cs)) : wpOp Try.prog ops Q i K a w := by
  unfold wpOp
  simp only [hi, hw, if_true]
  exact .inl (wp_store_row 45 x y ho g p.cs hx hy 45 q.cs hb (by rw [show p.cs.size = 7 from rfl]; kernel_rfl) rfl (by simp [Ud.cs, Value.oneCell']) (by rw [hd]; exact h))
theorem held_take {P : Program} {md : Region.Mode} {S : World → Prop} {oi : Oper} {v : Value} {fuel : Nat} {listed : Array Bool} (d : Nat) (hi : ops[i]? = some oi) (hd : oi.dst = some d)
    (hs : Region.noSelect ops = true) (hf : Region.free md ops listed i = true) (hr : (Region.ready md ops listed).contains i = true)
    (hQ : ∀ c a w, Q (.panic c) (a.put (some d) v) w → Q (.panic c) a w) (hy : YieldsIf P ops S oi v a) (hS : S w)
    (h : wpAnyH P md ops Q S fuel (listed.setIfInBounds i true) (a.put (some d) v) w) : wpAnyH P md ops Q S (fuel + 1) listed a w :=
  wpAnyH_take hi hs hf hr (by rw [hd]; exact hQ) hy hS (by rw [hd]; exact h)
end
section
variable {P : Program} {ops : Array Oper} {Q : Exit → Act → World → Prop} {K : Act → World → Prop} {i : Nat} {o : Oper} {a : Act} {w : World}
theorem held_run (hi : ops[i]? = some o) (hw : Region.wanted o (yielded ops a.tmps) = true) (d : Nat) (hd : o.dst = some d) (v : Value) (w' : World) (hr : (execOp a.eval o).run P w = .ok (.value v) w') (h : K (a.put (some d) v) w') : wpOp P ops Q i K a w := by
  unfold wpOp
  simp only [hi, hw, if_true]
  refine .inl ?_
  unfold Oper.wp
  rw [hr]
  simp only [Oper.upon, hd]
  exact h
theorem held_wp (hi : ops[i]? = some o) (hw : Region.wanted o (yielded ops a.tmps) = true) (h : o.wp P a w K Q) : wpOp P ops Q i K a w := by
  unfold wpOp
  simp only [hi, hw, if_true]
  exact .inl h
theorem held_call (hi : ops[i]? = some o) (hw : Region.wanted o (yielded ops a.tmps) = true) (d : Nat) (hd : o.dst = some d) (f : FuncId) (args : Array Value) (hr : (execOp a.eval o).run P w = .ok (.enter f args) w)
    (h : Calls P f args w fun e w' => ∃ v, e = .returned v ∧ K (a.put (some d) v) w') : wpOp P ops Q i K a w := by
  refine held_wp hi hw ?_
  unfold Oper.wp
  rw [hr]
  simp only [Oper.upon]
  refine h.mono fun e w' ⟨v, he, hk⟩ => ?_
  subst he
  simp only [hd]
  exact hk
theorem held_ready {md : Region.Mode} {S : World → Prop} {fuel : Nat} {listed : Array Bool} (i : Nat) (hr : Region.ready md ops listed = [i])
    (h : wpOp P ops Q i (fun a' w' => S w' ∧ wpAnyH P md ops Q S fuel (listed.setIfInBounds i true) a' w') a w) : wpAnyH P md ops Q S (fuel + 1) listed a w :=
  wpAnyH_all hr (by simp) fun j hj => by
    obtain rfl : j = i := by simpa using hj
    exact h
end
end Go.Proofs.Ytdhfcjplnbnkdaa
namespace Go.Proofs.Ytdhfcjplnbnkdaa
open Go.RowKit Go.Maps

theorem SV.far {w w' w2 : World} {B g b gs r N M : Nat} {und pg : Nat → Pg} (h : SV w B g b gs r N M und pg) {A F : Nat} (h1 : w.grownBy w2 (some A)) (h2 : w2.grownBy w' (some F)) (hA : A ≠ g ∧ A ≠ b ∧ A ≠ gs ∧ A ≠ r) (hF : F ≠ g ∧ F ≠ b ∧ F ≠ gs ∧ F ≠ r) : SV w' B g b gs r N M und pg :=
  (h.grown h1 (fun k hk => by cases hk; exact hA)).grown h2 (fun k hk => by cases hk; exact hF)
theorem hit_rc {pg : Nat → Pg} {n : Nat} {ch : List Nat} {L : Nat → Nat → Ce} (h : Hc pg n ch L) {id : Int} {i : Nat} (hi : i < ch.length) (hh : hitP (ch.getD i 0) (pg (ch.getD i 0)) id) : ∃ p s : Nat, s < 6 ∧ id = (p : Int) * 8 + (s : Int) ∧ p = ch.getD i 0 ∧ id.toNat % 8 = s ∧ (L p s).st = 1 := by
  obtain ⟨h1, h2, h3, h4⟩ := hh
  refine ⟨id.toNat / 8, id.toNat % 8, h3, by omega, h2.symm, rfl, ?_⟩
  rw [← h.cell (by rw [← h2]; exact getD_mem hi) h3, ← h2]
  exact h4
theorem rc_hit {pg : Nat → Pg} {n : Nat} {ch : List Nat} {L : Nat → Nat → Ce} (h : Hc pg n ch L) {id : Int} (hr : rcP L id) : ∃ i, i < ch.length ∧ hitP (ch.getD i 0) (pg (ch.getD i 0)) id := by
  have hm := h.rc_mem hr.2.2
  obtain ⟨i, hi, e⟩ := mem_getD hm
  refine ⟨i, hi, hr.1, e, hr.2.1, ?_⟩
  rw [e, h.cell hm hr.2.1]
  exact hr.2.2
theorem bk_at {w : World} {k : Nat} (h : w.heap.size = k) (t : TypeId) (cs : Array Value) : Bk (w.alloc (.cells cs t)) k t cs := h ▸ Bk.new w t cs
def SeekPost (w : World) (pg : Nat → Pg) (ch : List Nat) (L : Nat → Nat → Ce) (id : Int) (e : Ending) (w' : World) : Prop :=
  ((∃ p s : Nat, s < 6 ∧ id = (p : Int) * 8 + (s : Int) ∧ p ∈ ch ∧ (L p s).st = 1 ∧ e = .returned (.tuple #[.agg (pg p).cs, .int .i64 s, .int .i64 0])) ∨
   (¬ rcP L id ∧ e = .returned (.tuple #[.agg Pg.zero.cs, .int .i64 0, .int .i64 150]))) ∧ Below w.heap.size w w'
open Classical in
set_option maxRecDepth 100000 in
set_option maxHeartbeats 8000000 in
theorem seek_any {w : World} {B g b gs r N M n : Nat} {und pg : Nat → Pg} {ch : List Nat} {L : Nat → Nat → Ce} (h : SV w B g b gs r N M und pg) (hn : n ≤ N) (hc : Hc pg n ch L) (id : Int) (hid : -9223372036854775808 ≤ id ∧ id ≤ 9223372036854775807) :
    Calls Try.prog 38 #[.pointer (some ⟨g, 0, none⟩), .int .i64 1, .int .i64 id] w (SeekPost w pg ch L id) := by
  have HV := Lib.hid h; have HC := Lib.hid hc; have HID := Lib.hid hid; have HN := Lib.hid hn
  have NEG := Lib.hid h.gs_ne
  have NO := Lib.hid (fun (w' : World) (hx : ¬ rcP L id) (hb : Below w.heap.size w w') => show SeekPost w pg ch L id (.returned (.tuple #[.agg Pg.zero.cs, .int .i64 0, .int .i64 150])) w' from ⟨.inr ⟨hx, rfl⟩, hb⟩)
  have YES := Lib.hid (fun (w' : World) (p s : Nat) (h1 : s < 6) (h2 : id = (p : Int) * 8 + (s : Int)) (h3 : p ∈ ch) (h4 : (L p s).st = 1) (hb : Below w.heap.size w w') => show SeekPost w pg ch L id (.returned (.tuple #[.agg (pg p).cs, .int .i64 s, .int .i64 0])) w' from ⟨.inl ⟨p, s, h1, h2, h3, h4, rfl⟩, hb⟩)
  obtain ⟨tm, htm⟩ : ∃ tm, tm = id.tmod 8 := ⟨_, rfl⟩
  have TM := Lib.hid htm
  have w8 : wrap64 tm = tm := by
    have h1 : id.tmod 8 < 8 := Int.tmod_lt_of_pos id (by omega)
    have h2 : -8 < id.tmod 8 := by have := Int.lt_tmod_of_pos id (b := 8) (by omega); omega
    rw [htm]; unfold wrap64; omega
  clear h hc hid hn htm
  go_enter Try.func38, Try.ntmps38
  go_upto_region 3 with fail
  change Code.wp _ _ _ _ (((((w.alloc (.cells #[.int .i64 id] 3)).alloc (.cells Pg.zero.cs 40)).alloc (.cells Pg.zero.cs 40)).alloc (.cells #[.int .i64 (id.tmod 8)] 3)).alloc (.cells #[.bool false] 4))
  have KI := Lib.hid (((((Bk.new w 3 #[.int .i64 id]).alloc (.cells Pg.zero.cs 40)).alloc (.cells Pg.zero.cs 40)).alloc (.cells #[.int .i64 (id.tmod 8)] 3)).alloc (.cells #[.bool false] 4))
  have KR := Lib.hid ((((Bk.new2 w (.cells #[.int .i64 id] 3) 40 Pg.zero.cs).alloc (.cells Pg.zero.cs 40)).alloc (.cells #[.int .i64 (id.tmod 8)] 3)).alloc (.cells #[.bool false] 4))
  have KA := Lib.hid (((Bk.new3 w (.cells #[.int .i64 id] 3) (.cells Pg.zero.cs 40) 40 Pg.zero.cs).alloc (.cells #[.int .i64 (id.tmod 8)] 3)).alloc (.cells #[.bool false] 4))
  have KS := Lib.hid ((bk_at (w := ((w.alloc (.cells #[.int .i64 id] 3)).alloc (.cells Pg.zero.cs 40)).alloc (.cells Pg.zero.cs 40)) (k := w.heap.size + 1 + 1 + 1) (by simp) 3 #[.int .i64 (id.tmod 8)]).alloc (.cells #[.bool false] 4))
  have KF := Lib.hid (bk_at (w := (((w.alloc (.cells #[.int .i64 id] 3)).alloc (.cells Pg.zero.cs 40)).alloc (.cells Pg.zero.cs 40)).alloc (.cells #[.int .i64 (id.tmod 8)] 3)) (k := w.heap.size + 1 + 1 + 1 + 1) (by simp) 4 #[.bool false])
  have V5 := Lib.hid (((((HV.out.alloc (.cells #[.int .i64 id] 3)).alloc (.cells Pg.zero.cs 40)).alloc (.cells Pg.zero.cs 40)).alloc (.cells #[.int .i64 (id.tmod 8)] 3)).alloc (.cells #[.bool false] 4))
  have B5 := Lib.hid (show Below w.heap.size w (((((w.alloc (.cells #[.int .i64 id] 3)).alloc (.cells Pg.zero.cs 40)).alloc (.cells Pg.zero.cs 40)).alloc (.cells #[.int .i64 (id.tmod 8)] 3)).alloc (.cells #[.bool false] 4)) from
    (((((Below.refl _ _).alloc (Nat.le_refl _) _).alloc (by simp) _).alloc (by simp; omega) _).alloc (by simp; omega) _).alloc (by simp; omega) _)
  obtain ⟨w5, hw5⟩ : ∃ w5, w5 = (((((w.alloc (.cells #[.int .i64 id] 3)).alloc (.cells Pg.zero.cs 40)).alloc (.cells Pg.zero.cs 40)).alloc (.cells #[.int .i64 (id.tmod 8)] 3)).alloc (.cells #[.bool false] 4)) := ⟨_, rfl⟩
  rw [← hw5] at KI KR KA KS KF V5 B5 ⊢
  clear hw5
  obtain ⟨F, hF⟩ : ∃ F, F = w.heap.size + 1 + 1 + 1 + 1 := ⟨_, rfl⟩
  rw [← hF] at KF ⊢
  obtain ⟨S, hS⟩ : ∃ S, S = w.heap.size + 1 + 1 + 1 := ⟨_, rfl⟩
  rw [← hS] at KS ⊢
  obtain ⟨A, hA⟩ : ∃ A, A = w.heap.size + 1 + 1 := ⟨_, rfl⟩
  rw [← hA] at KA ⊢
  obtain ⟨R, hR⟩ : ∃ R, R = w.heap.size + 1 := ⟨_, rfl⟩
  rw [← hR] at KR ⊢
  obtain ⟨I, hI⟩ : ∃ I, I = w.heap.size := ⟨_, rfl⟩
  rw [← hI] at KI ⊢
  have SZ := Lib.hid (show I = w.heap.size ∧ R = w.heap.size + 1 ∧ A = w.heap.size + 1 + 1 ∧ S = w.heap.size + 1 + 1 + 1 ∧ F = w.heap.size + 1 + 1 + 1 + 1 ∧ F < w5.heap.size from ⟨hI, hR, hA, hS, hF, KF.out.lt⟩)
  have NEA := Lib.hid (show A ≠ g ∧ A ≠ b ∧ A ≠ gs ∧ A ≠ r by have := SZ.out; have := NEG.out; omega)
  have NEF := Lib.hid (show F ≠ g ∧ F ≠ b ∧ F ≠ gs ∧ F ≠ r by have := SZ.out; have := NEG.out; omega)
  rw [← TM.out] at KS
  clear hI hR hA hS hF HV
  have CW := Lib.hid (walk_any HC.out 52 #[.pointer (some ⟨A, 0, none⟩), .pointer (some ⟨I, 0, none⟩), .pointer (some ⟨S, 0, none⟩), .pointer (some ⟨F, 0, none⟩)]
    (enters_of Try.func52 (by kernel_rfl) rfl) (w := w5) (B := B) (g := g) (b := b) (gs := gs) (r := r) (N := N) (M := M) (und := und)
    (fun i w' => SV w' B g b gs r N M und pg ∧ w5.heap.size ≤ w'.heap.size ∧ Bk w' I 3 #[.int .i64 id] ∧ Bk w' S 3 #[.int .i64 tm] ∧ Bk w' F 4 #[.bool false] ∧ (∃ p0 : Pg, Bk w' A 40 p0.cs) ∧ Bk w' R 40 Pg.zero.cs ∧ Below w.heap.size w w' ∧ ∀ q, q < i → ¬ hitP (ch.getD q 0) (pg (ch.getD q 0)) id)
    (fun i w' => Bk w' A 40 (pg (ch.getD i 0)).cs ∧ Bk w' S 3 #[.int .i64 tm] ∧ Bk w' F 4 #[.bool true] ∧ Bk w' R 40 Pg.zero.cs ∧ Below w.heap.size w w' ∧ hitP (ch.getD i 0) (pg (ch.getD i 0)) id)
    HN.out (fun i w' h => h.1)
    (fun i w' w'' h hb => ⟨h.1.kept hb, Nat.le_trans h.2.1 hb.size, h.2.2.1.kept hb, h.2.2.2.1.kept hb, h.2.2.2.2.1.kept hb, h.2.2.2.2.2.1.elim fun p0 hp => ⟨p0, hp.kept hb⟩, h.2.2.2.2.2.2.1.kept hb, below_then h.2.2.2.2.2.2.2.1 hb h.2.2.2.2.2.2.2.1.size, h.2.2.2.2.2.2.2.2⟩)
    (fun i w' hi h => by
      obtain ⟨h1, h2, h3, h4, h5, ⟨p0, h6⟩, h7, h8, h9⟩ := h
      refine (visit_seek (ch.getD i 0) (pg (ch.getD i 0)) p0 id HID.out A I S F false w' h6 h3 (by rw [← TM.out]; exact h4) h5).mono ?_
      rintro e w'' ⟨rfl, k1, k2, w1, g1, g2⟩
      have far : ∀ q t cs, Bk w' q t cs → q ≠ A → q ≠ F → Bk w'' q t cs := fun q t cs hk hqa hqf => (hk.grown g1 (fun e => hqa (by injection e))).grown g2 (fun e => hqf (by injection e))
      have hsz : w'.heap.size ≤ w''.heap.size := Nat.le_trans g1.size g2.size
      have hS := SZ.out
      refine ⟨?_, fun q cs hq hk => far q _ cs hk (by omega) (by omega)⟩
      by_cases hh : hitP (ch.getD i 0) (pg (ch.getD i 0)) id
      · right
        rw [decide_eq_true hh] at k2 ⊢
        exact ⟨rfl, k1, far _ _ _ h4 (by omega) (by omega), k2, far _ _ _ h7 (by omega) (by omega), bl_grow (bl_grow h8 g1 (fun j hj => by cases hj; omega) h8.size) g2 (fun j hj => by cases hj; omega) (Nat.le_trans h8.size g1.size), hh⟩
      · left
        rw [decide_eq_false hh] at k2 ⊢
        exact ⟨rfl, h1.far g1 g2 NEA.out NEF.out, Nat.le_trans h2 hsz, far _ _ _ h3 (by omega) (by omega), far _ _ _ h4 (by omega) (by omega), k2, ⟨_, k1⟩, far _ _ _ h7 (by omega) (by omega), bl_grow (bl_grow h8 g1 (fun j hj => by cases hj; omega) h8.size) g2 (fun j hj => by cases hj; omega) (Nat.le_trans h8.size g1.size), fun q hq => by
          by_cases e : q = i
          · rw [e]; exact hh
          · exact h9 q (by omega)⟩)
    (fun i w' h => h.2.1)
    ⟨V5.out, Nat.le_refl _, KI.out, KS.out, KF.out, ⟨_, KA.out⟩, KR.out, B5.out, fun q hq => absurd hq (Nat.not_lt_zero q)⟩)
  as_aux_lemma =>
    go_wp2_with fail
    refine CW.out.mono ?_
    rintro e w6 ⟨rfl, ⟨h1, h2, h3, h4, h5, ⟨p0, h6⟩, h7, h8, h9⟩ | ⟨i, hi, k1, k2, k3, k4, k5, k6⟩⟩
    · have f0 : w6.cell? ⟨F, 0, none⟩ = some (.bool false) := h5.cell 0
      have R6 := Lib.hid h7
      have B6 := Lib.hid h8
      have NR := Lib.hid (show ¬ rcP L id from fun hr => by
        obtain ⟨i, hi, hh⟩ := rc_hit HC.out hr
        exact h9 i hi hh)
      have BR := Lib.hid (below_row (cs := Pg.zero.cs) h8 (show w.heap.size ≤ R by have := SZ.out; omega))
      clear h1 h2 h3 h4 h5 h6 h7 h8 h9 CW V5 B5 KI KR KA KS KF
      go_wp2_with (first | (refine build_pg0 rfl rfl ?_) | (refine store_page rfl _ _ rfl R Pg.zero Pg.zero rfl rfl R6.out ?_))
      refine bodyPost_ret (page_ctt rfl _ _ R Pg.zero.cs (row_bk R6.out) rfl rfl) rfl ?_
      exact NO.out _ NR.out BR.out
    · have f0 : w6.cell? ⟨F, 0, none⟩ = some (.bool true) := k3.cell 0
      obtain ⟨p, s, hs6, hid, hp, hts, hst⟩ := hit_rc HC.out hi k6
      have ts : tm = (s : Int) := by rw [TM.out, hid, Int.tmod_eq_emod_of_nonneg (by omega)]; omega
      rw [ts] at k2
      have S6 := Lib.hid k2
      have NR := Lib.hid (show A ≠ R ∧ S ≠ R by have := SZ.out; omega)
      rw [← hp] at k1
      have A6 := Lib.hid k1
      have R6 := Lib.hid k4
      have B6 := Lib.hid k5
      have FIN := Lib.hid (YES.out · p s hs6 hid (by rw [hp]; exact getD_mem hi) hst)
      have BR := Lib.hid (below_row (cs := (pg p).cs) k5 (show w.heap.size ≤ R by have := SZ.out; omega))
      clear k1 k2 k3 k4 k5 k6 CW V5 B5 KI KR KA KS KF hid hts hst hp
      generalize pg p = pp at *
      go_upto_region 8 with fail
      refine wp_region_held (S := fun w' => Bk w' A 40 pp.cs ∧ Bk w' S 3 #[.int .i64 s]) (by kernel_rfl) ?_
      refine held_take (fuel := 4) (i := 0) 29 rfl rfl (by kernel_rfl) (by kernel_rfl) (by kernel_rfl) (fun _ _ _ h => h) (held_page _ rfl (by kernel_rfl) A pp rfl (fun w h => h.1)) ⟨A6.out.drew, S6.out.drew⟩ ?_
      refine held_take (fuel := 3) (i := 1) 30 rfl rfl (by kernel_rfl) (by kernel_rfl) (by kernel_rfl) (fun _ _ _ h => h) (held_int _ rfl (by kernel_rfl) S s rfl (fun w h => h.2)) ⟨A6.out.drew, S6.out.drew⟩ ?_
      simp only [Act.put, List.setIfInBounds_toArray, List.set_cons_succ, List.set_cons_zero]
      refine wpAnyH_all (fuel := 2) (rs := [2]) (by kernel_rfl) (by decide) ?_
      intro i hi
      obtain rfl : i = 2 := by simpa using hi
      refine held_store rfl _ _ rfl rfl (by kernel_rfl) R pp Pg.zero rfl rfl R6.out.drew ⟨⟨row_far A6.out.drew NR.out.1, row_far S6.out.drew NR.out.2⟩, ?_⟩
      refine held_take (fuel := 1) (i := 3) 7 rfl rfl (by kernel_rfl) (by kernel_rfl) (by kernel_rfl) (fun _ _ _ h => h) (held_assign _ rfl (by kernel_rfl)) ⟨row_far A6.out.drew NR.out.1, row_far S6.out.drew NR.out.2⟩ ?_
      refine held_take (fuel := 0) (i := 4) 8 rfl rfl (by kernel_rfl) (by kernel_rfl) (by kernel_rfl) (fun _ _ _ h => h) (held_assign _ rfl (by kernel_rfl)) ⟨row_far A6.out.drew NR.out.1, row_far S6.out.drew NR.out.2⟩ ?_
      refine wpAnyH_done (by kernel_rfl) ?_ _
      simp only [Act.put, Act.eval, List.setIfInBounds_toArray, List.set_cons_succ, List.set_cons_zero]
      generalize hW : World.setRow _ R pp.cs = wF
      have BD := Lib.hid (show Below w.heap.size w wF by rw [← hW]; exact BR.out.drew)
      have RD := Lib.hid (show Bk wF R 40 pp.cs by rw [← hW]; exact row_bk R6.out.drew)
      clear hW
      go_wp2
      refine bodyPost_ret (page_ctt rfl _ _ R pp.cs RD.out rfl rfl) rfl ?_
      exact FIN.out _ BD.out
end Go.Proofs.Ytdhfcjplnbnkdaa
