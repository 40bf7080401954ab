/- Calls that came in: a kind, a number, a page. And operations taken first, in regions that draw their order. -/
import Derived.Test.YthapmkgcaghadaaStgLib
import Derived.OrdersHeld
import Derived.BigFrame
set_option linter.unusedVariables false
set_option linter.unusedSimpArgs false
namespace Go.Proofs.Ythapmkgcaghadaa
open Go.RowKit Go.ChangeShapes Go.WideShapes Go.ChangeAt Go.Deep

structure Cl where
  k : Int
  id : Int
  p : Pg
def Cl.cs (c : Cl) : Array Value := (.int .i64 c.k :: .int .i64 c.id :: c.p.cs.toList).toArray
def Cl.zero : Cl := ⟨0, 0, Pg.zero⟩
theorem cl_len (c : Cl) : c.cs.toList.length = 18 := rfl
theorem cl_page {w : World} {g : Nat} {c : Cl} (h : Bk w g 44 c.cs) : w.rangeAt g 2 c.p.cs.toList := fun j v hv => by
  rw [h.cell]
  unfold Cl.cs
  rw [List.getElem?_toArray, Nat.add_comm 2 j, List.getElem?_cons_succ, List.getElem?_cons_succ]
  exact hv
section
variable {ops : Array Oper} {rest : List Oper} {o : Oper} {a : Act} {w : World} {Q : Exit → Act → World → Prop}
theorem load_cl_off (hgd : o.guard = none) (x : Operand) (ho : o.op = .load 44 x) (g off : Nat) (i : Nat) (p : Cl) (hx : a.eval x = .pointer (some ⟨g, off + i * 18, none⟩)) (hr : w.rangeAt g (off + i * 18) p.cs.toList)
    (h : wpList Try.prog ops Q rest (a.put o.dst (.agg p.cs)) w) : wpList Try.prog ops Q (o :: rest) a w :=
  wpList_load_mid hgd 44 x ho g (off + i * 18) hx p.cs.toList _ hr Try.underlying44 rfl (by rw [cl_len]; kernel_rfl) (by simpa using h)
theorem store_cl_new (hgd : o.guard = none) (x y : Operand) (ho : o.op = .store 44 x y) (i : Cl)
    (hx : a.eval x = .pointer (some ⟨w.heap.size, 0, none⟩)) (hy : a.eval y = .agg i.cs) (h : wpList Try.prog ops Q rest (a.put o.dst undef) (w.alloc (.cells i.cs 44))) : wpList Try.prog ops Q (o :: rest) a (w.alloc (.cells Cl.zero.cs 44)) := by
  refine wpList_store_row hgd 44 x y ho w.heap.size i.cs hx hy 44 Cl.zero.cs (Bk.new _ _ _) (by rw [show i.cs.size = 18 from rfl]; kernel_rfl) rfl (by simp [Cl.cs, Pg.cs, Value.oneCell']) ?_
  rw [World.setRow_alloc_new]
  exact h
theorem load_cl_page (hgd : o.guard = none) (x : Operand) (ho : o.op = .load 42 x) (g : Nat) (i : Cl) (hx : a.eval x = .pointer (some ⟨g, 2, none⟩)) (hb : Bk w g 44 i.cs)
    (h : wpList Try.prog ops Q rest (a.put o.dst (.agg i.p.cs)) w) : wpList Try.prog ops Q (o :: rest) a w :=
  wpList_load_mid hgd 42 x ho g 2 hx i.p.cs.toList _ (cl_page hb) Try.underlying42 rfl (by rw [pg_len]; kernel_rfl) (by simpa using h)
end
/-- A slice of calls that lie below B. -/
def ClsAt (w : World) (B : Nat) (v : Value) (l : List Cl) : Prop :=
  ∃ a c, v = .slice a l.length c ∧ (0 < l.length → ∃ b off, a = some (⟨b, off, none⟩ : Addr) ∧ b < B ∧ ∀ i p, l[i]? = some p → w.rangeAt b (off + i * 18) p.cs.toList)
structure IsCls (w : World) (v : Value) (l : List Cl) : Prop where
  at_ : ClsAt w w.heap.size v l
  len : l.length ≤ maxLen
  bd : ∀ i ∈ l, in64 i.k ∧ in64 i.id ∧ ∃ v, IsPage v i.p
theorem ClsAt.below {w w' : World} {B : Nat} {v : Value} {l : List Cl} (h : ClsAt w B v l) (hb : Below B w w') : ClsAt w' B v l := by
  obtain ⟨a, c, e, h⟩ := h
  refine ⟨a, c, e, fun hm => ?_⟩
  obtain ⟨b, off, e1, hlt, hc⟩ := h hm
  exact ⟨b, off, e1, hlt, fun i p hi j u hu => (hb.cell (p := ⟨b, off + i * 18 + j, none⟩) hlt).trans (hc i p hi j u hu)⟩
section
variable {H : Type} {enc : TypeId × Value → H} {w : World} {base : Nat} {held : Bool}
set_option maxRecDepth 100000 in
theorem call_trod {n : Nat} {l : List Value} {x : DataW H × List MemPlace} (hlen : l.length = 18) (h : DataW.trod enc Try.prog w base (fun _ => true) held n 44 l = some x) :
    ∃ m : Cl, l = m.cs.toList ∧ in64 m.k ∧ in64 m.id ∧ ∃ v, IsPage v m.p := by
  have cI : Try.prog.cellsOf 3 = 1 := by kernel_rfl
  have cP : Try.prog.cellsOf 42 = 16 := by kernel_rfl
  obtain ⟨xs, m, _, _, _, hl, hg⟩ := DataW.trod_struct Try.underlying44 h
  match l, hlen with
  | [d0, c0, c1, c2, c3, c4, c5, c6, c7, c8, c9, c10, c11, c12, c13, c14, c15, c16], _ =>
    have hl2 : xs.length = 3 := hl
    generalize hL : [d0, c0, c1, c2, c3, c4, c5, c6, c7, c8, c9, c10, c11, c12, c13, c14, c15, c16] = L at hg
    have g0 : DataW.trod enc Try.prog w base (fun _ => true) held m 3 (L.drop 0 |>.take (Try.prog.cellsOf 3)) = xs[0]? := hg 0 _ rfl
    have g1 : DataW.trod enc Try.prog w base (fun _ => true) held m 3 (L.drop 1 |>.take (Try.prog.cellsOf 3)) = xs[1]? := hg 1 _ rfl
    have g2 : DataW.trod enc Try.prog w base (fun _ => true) held m 42 (L.drop 2 |>.take (Try.prog.cellsOf 42)) = xs[2]? := hg 2 _ rfl
    subst hL
    rw [cI] at g0 g1
    rw [cP] at g2
    obtain ⟨y0, e0⟩ := len_ex hl2 0 (by omega)
    obtain ⟨y1, e1⟩ := len_ex hl2 1 (by omega)
    obtain ⟨y2, e2⟩ := len_ex hl2 2 (by omega)
    obtain ⟨n0, hn0, _, z0⟩ := DataW.trod_int Try.underlying3 (g0.trans e0)
    obtain ⟨n1, hn1, _, z1⟩ := DataW.trod_int Try.underlying3 (g1.trans e1)
    obtain ⟨q, hq⟩ := page_trod (g2.trans e2)
    have hval := hq.val
    unfold Pg.v Pg.cs at hval
    simp only [Value.agg.injEq, Array.mk.injEq, List.cons.injEq] at hval
    obtain ⟨r0, r1, r2, r3, r4, r5, r6, r7, r8, r9, r10, r11, r12, r13, r14, r15, _⟩ := hval
    simp at hn0 hn1
    subst hn0 hn1 r0 r1 r2 r3 r4 r5 r6 r7 r8 r9 r10 r11 r12 r13 r14 r15
    exact ⟨⟨n0, n1, q⟩, rfl, int_in z0, int_in z1, _, hq⟩
theorem read_calls {r : Reach} {b0 : Nat} {d : DataW H} {p : List MemPlace} {v : Value}
    (hv : Value.okWide Try.prog w r b0 22 v) (h : DataW.Trod enc Try.prog w base (fun _ => true) held 22 v d p) : ∃ l : List Cl, IsCls w v l := by
  obtain ⟨fuel, hf⟩ := h
  obtain ⟨a0, len0, cap0, rfl⟩ := okWide_slice Try.underlying22 hv
  have hf' : DataW.trod enc Try.prog w base (fun _ => true) held fuel 22 [.slice a0 len0 cap0] = some (d, p) := hf
  obtain ⟨a, len, cap, hve, h1, h2, _, L, hL, hat⟩ := rows_trod (C := 18) Try.underlying22 (by kernel_rfl) (by omega) hf'
  rw [hve]
  have him : ∀ i, ∃ mm : Cl, i < len → L i = mm.cs.toList ∧ in64 mm.k ∧ in64 mm.id ∧ ∃ v, IsPage v mm.p := by
    intro i
    by_cases hi : i < len
    · obtain ⟨hlen, n, y, ht⟩ := hL i hi
      obtain ⟨mm, h1⟩ := call_trod hlen ht
      exact ⟨mm, fun _ => h1⟩
    · exact ⟨Cl.zero, fun h => absurd h hi⟩
  have hll : ((List.range len).map fun i => (him i).choose).length = len := by simp
  refine ⟨(List.range len).map fun i => (him i).choose, ⟨a, cap, by rw [hll], fun h0 => ?_⟩, by rw [hll]; omega, fun i hi => ?_⟩
  · rw [hll] at h0
    obtain ⟨b, off, e1, hlt, hc⟩ := hat h0
    refine ⟨b, off, e1, hlt, fun i p hi j u hu => ?_⟩
    have hil : i < len := by have := (List.getElem?_eq_some_iff.1 hi).1; rwa [hll] at this
    rw [List.getElem?_map, List.getElem?_range hil] at hi
    simp at hi
    subst hi
    exact hc i j u hil (by rw [((him i).choose_spec hil).1]; exact hu)
  · obtain ⟨k, hk, rfl⟩ := List.mem_map.1 hi
    exact ((him k).choose_spec (List.mem_range.1 hk)).2
end
/- Operations taken first. -/
section
variable {P : Program} {ops : Array Oper} {Q : Exit → Act → World → Prop} {K : Act → World → Prop} {i : Nat} {o : Oper} {a : Act} {w : World}
theorem held_wp (hi : ops[i]? = some o) (hw : Region.wanted o (yielded ops a.tmps) = true) (h : o.wp P a w K Q) : wpOp P ops Q i K a w := by
  unfold wpOp
  simp only [hi, hw, if_true]
  exact .inl h
theorem held_call (hi : ops[i]? = some o) (hw : Region.wanted o (yielded ops a.tmps) = true) (d : Nat) (hd : o.dst = some d) (f : FuncId) (args : Array Value) (hr : (execOp a.eval o).run P w = .ok (.enter f args) w)
    (h : Calls P f args w fun e w' => ∃ v, e = .returned v ∧ K (a.put (some d) v) w') : wpOp P ops Q i K a w := by
  refine held_wp hi hw ?_
  unfold Oper.wp
  rw [hr]
  simp only [Oper.upon]
  refine h.mono fun e w' ⟨v, he, hk⟩ => ?_
  subst he
  simp only [hd]
  exact hk
theorem held_ready {md : Region.Mode} {S : World → Prop} {fuel : Nat} {listed : Array Bool} (i : Nat) (hr : Region.ready md ops listed = [i])
    (h : wpOp P ops Q i (fun a' w' => S w' ∧ wpAnyH P md ops Q S fuel (listed.setIfInBounds i true) a' w') a w) : wpAnyH P md ops Q S (fuel + 1) listed a w :=
  wpAnyH_all hr (by simp) fun j hj => by
    obtain rfl : j = i := by simpa using hj
    exact h
theorem held_take {md : Region.Mode} {S : World → Prop} {oi : Oper} {v : Value} {fuel : Nat} {listed : Array Bool} (d : Nat) (hi : ops[i]? = some oi) (hd : oi.dst = some d)
    (hs : Region.noSelect ops = true) (hf : Region.free md ops listed i = true) (hr : (Region.ready md ops listed).contains i = true)
    (hQ : ∀ c a w, Q (.panic c) (a.put (some d) v) w → Q (.panic c) a w) (hy : YieldsIf P ops S oi v a) (hS : S w)
    (h : wpAnyH P md ops Q S fuel (listed.setIfInBounds i true) (a.put (some d) v) w) : wpAnyH P md ops Q S (fuel + 1) listed a w :=
  wpAnyH_take hi hs hf hr (by rw [hd]; exact hQ) hy hS (by rw [hd]; exact h)
theorem held_move {S : World → Prop} (y : Operand) (ho : o.op = .move y) (hw : Region.wanted o (yielded ops a.tmps) = true) : YieldsIf P ops S o (a.eval y) a :=
  .inl ⟨hw, fun w h => BigFrame.run_move y ho w⟩
theorem held_run {S : World → Prop} (u : Value) (hw : Region.wanted o (yielded ops a.tmps) = true) (hr : ∀ w, S w → (execOp a.eval o).run P w = .ok (.value u) w) : YieldsIf P ops S o u a := .inl ⟨hw, hr⟩
end
end Go.Proofs.Ythapmkgcaghadaa
