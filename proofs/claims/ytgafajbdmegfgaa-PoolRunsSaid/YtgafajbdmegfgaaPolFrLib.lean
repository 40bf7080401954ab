/- PoolFrames. -/
import Derived.Test.YtgafajbdmegfgaaPolVw
import Derived.Test.YtgafajbdmegfgaaPgRow
import Derived.Test.YtgafajbdmegfgaaPgCmp
import Derived.Deep.DeepCutAuto
import Derived.Deep.AppendLies
import Derived.Great.BuildSlice
set_option linter.unusedVariables false
set_option linter.unusedSimpArgs false
namespace Go.Proofs.Ytgafajbdmegfgaa
open Go.RowKit

theorem pinfo_page : (Try.prog.info? 40).map (fun i => (i.zero, i.size, i.bytes)) = some (some (.agg Pg.zero.cs), 16, 176) := by kernel_rfl
def POwn (w : World) (base : Nat) (v : Value) (l : List Pg) : Prop := w.ownsRow base 40 16 v l.length (flatPg l)
theorem flatPg_app (l : List Pg) (i : Pg) : flatPg (l ++ [i]) = flatPg l ++ i.cs.toList := by unfold flatPg; simp
theorem POwn.range {w : World} {base g c : Nat} {l : List Pg} {n : Nat} (h : POwn w base (.slice (some ⟨g, 0, none⟩) n c) l) {i : Nat} {p : Pg} (hi : l[i]? = some p) : w.rangeAt g (i * 16) p.cs.toList := fun j v hv => by
  have hj : j < 16 := by have := (List.getElem?_eq_some_iff.1 hv).1; rwa [pg_len] at this
  have := World.ownsRow.cells h (g := g) rfl (i * 16 + j) v (by rw [flat_get l i p hi j hj]; simpa using hv)
  rw [Addr.add_lit, Nat.zero_add] at this
  exact this
theorem POwn.form {w : World} {base : Nat} {v : Value} {l : List Pg} (h : POwn w base v l) (hn : 0 < l.length) : ∃ g cap, v = .slice (some ⟨g, 0, none⟩) l.length cap ∧ base ≤ g ∧ g < w.heap.size := ow_form h hn
/-- All blocks of the elder world but one are as they were. -/
def But (w w' : World) (g : Nat) : Prop := w.heap.size ≤ w'.heap.size ∧ ∀ q, q < w.heap.size → q ≠ g → w'.heap[q]? = w.heap[q]?
theorem But.refl (w : World) (g : Nat) : But w w g := ⟨Nat.le_refl _, fun _ _ _ => rfl⟩
theorem But.below {w a b : World} {g : Nat} (h : But w a g) (hb : Below w.heap.size a b) : But w b g := ⟨Nat.le_trans h.1 hb.size, fun q hq hg => (hb.block q hq).trans (h.2 q hq hg)⟩
theorem But.grown {w a b : World} {g : Nat} {r : Option Nat} (h : But w a g) (hg : a.grownBy b r) (hr : ∀ k, r = some k → w.heap.size ≤ k) : But w b g :=
  ⟨Nat.le_trans h.1 hg.size, fun q hq hne => (hg.block q (Nat.lt_of_lt_of_le hq h.1) (fun e => by have := hr q e.symm; omega)).trans (h.2 q hq hne)⟩
theorem But.set {w a : World} {g : Nat} (h : But w a g) (i : Nat) (u : Value) : But w (a.setCell ⟨g, i, none⟩ u) g :=
  ⟨by simpa [World.setCell] using h.1, fun q hq hne => (Below.heap_setCell a ⟨g, i, none⟩ u q hne).trans (h.2 q hq hne)⟩
theorem But.bk {w a : World} {g k : Nat} {t : TypeId} {cs : Array Value} (h : But w a g) (hk : Bk w k t cs) (hne : k ≠ g) : Bk a k t cs := (h.2 k hk.lt hne).trans hk
theorem But.own {w a : World} {g base : Nat} {v : Value} {l : List Pg} (h : But w a g) (hl : POwn w base v l) {t : TypeId} {cs : Array Value} (hg : Bk w g t cs) (ht : t ≠ 40) : POwn a base v l :=
  owns_of_block hl fun k hk => by
    obtain ⟨h1, h2, c, hc⟩ := owns_block hl hk
    exact h.2 k h2 (Bk.ne_ hc hg (Ne.symm ht))
section
variable {ops : Array Oper} {Q : Exit → Act → World → Prop} {K : Act → World → Prop} {i : Nat} {o : Oper} {a : Act} {w : World}
theorem pk_wp {P : Program} (hi : ops[i]? = some o) (hw : Region.wanted o (yielded ops a.tmps) = true) (h : o.wp P a w K Q) : wpOp P ops Q i K a w := by
  unfold wpOp
  simp only [hi, hw, if_true]
  exact .inl h
theorem pk_page_at {S : World → Prop} (y : Operand) (ho : o.op = .load 40 y) (hw : Region.wanted o (yielded ops a.tmps) = true) (g off : Nat) (p : Pg)
    (hx : a.eval y = .pointer (some ⟨g, off, none⟩)) (hS : ∀ w, S w → w.rangeAt g off p.cs.toList) : YieldsIf Try.prog ops S o (.agg p.cs) a := by
  refine .inl ⟨hw, fun w h => ?_⟩
  unfold execOp
  simp only [ho, hx, Instr.loadAt, Instr.sureAddr, Sem.run_bind, Sem.run_pure, Result.andThen_ok, run_loadVar_mid w g off 40 p.cs.toList _ (hS w h) Try.underlying40 rfl (by rw [pg_len]; kernel_rfl), Array.toArray_toList]
theorem pk_neq {S : World → Prop} (y z : Operand) (ty : TypeId) (ho : o.op = .binOp .neq 40 y z ty) (hw : Region.wanted o (yielded ops a.tmps) = true) (p q : Pg) (hy : a.eval y = .agg p.cs) (hz : a.eval z = .agg q.cs) : YieldsIf Try.prog ops S o (.bool (!(pgB p q))) a := by
  refine .inl ⟨hw, fun w h => ?_⟩
  unfold execOp
  have hg : Try.prog.eqGuardType Try.prog.depth 40 = false := by kernel_rfl
  have hh : (eqGuard .neq 40 y z (.agg p.cs) (.agg q.cs)).run Try.prog w = .ok () w := run_eqGuard_agg _ _ _ _ _ _ _ hg
  simp only [ho, hy, hz, Sem.run_bind, Sem.run_pure, Result.andThen_ok, page_neq p q w, hh]
theorem pk_slice1 (hi : ops[i]? = some o) (hw : Region.wanted o (yielded ops a.tmps) = true) (d : Nat) (hd : o.dst = some d) (y : Operand) (ho : o.op = .buildSlice 56 1 #[(0, y)]) (p : Pg) (hy : a.eval y = .agg p.cs)
    (h : K (a.put (some d) (.slice (some ⟨w.heap.size, 0, none⟩) 1 1)) (w.alloc (.cells p.cs 40))) : wpOp Try.prog ops Q i K a w := by
  obtain ⟨i0, hi0, hz0, hz1, hz2⟩ := info_parts pinfo_page
  refine pk_wp hi hw (wp_buildSlice 56 40 1 #[(0, y)] ho p.cs i0 _ Try.underlying56 hi0 hz0 (by rw [hz1]; decide) (by rw [hz1]; decide) ?_ (by rw [hd]; exact h))
  rw [hz1]
  simp only [List.map_toArray, List.map_cons, List.map_nil, hy]
  kernel_rfl
theorem pk_append (hi : ops[i]? = some o) (hw : Region.wanted o (yielded ops a.tmps) = true) (d' : Nat) (hd : o.dst = some d') (x y : Operand) (ho : o.op = .call { callee := .builtin .append, args := #[x, y], argTypes := #[56, 56] })
    (base : Nat) (v : Value) (ps : List Pg) (hx : a.eval x = v) (hown : POwn w base v ps) (s c : Nat) (p : Pg) (hy : a.eval y = .slice (some ⟨s, 0, none⟩) 1 c) (hs : Bk w s 40 p.cs) (hlen : ps.length ≤ 1000000) (hb : base ≤ w.heap.size)
    (h : ∀ g cap w', POwn w' base (.slice (some ⟨g, 0, none⟩) (ps.length + 1) cap) (ps ++ [p]) → w.grownBy w' v.ownBlock → K (a.put (some d') (.slice (some ⟨g, 0, none⟩) (ps.length + 1) cap)) w') : wpOp Try.prog ops Q i K a w := by
  obtain ⟨i0, hi0, hz0, hz1, hz2⟩ := info_parts pinfo_page
  refine pk_wp hi hw (wp_append_lies w x y 56 ho base 40 i0 (.agg Pg.zero.cs) 16 176 Try.underlying56 hi0 hz0 hz1 hz2 rfl (by decide) v ps.length (flatPg ps) hx hown ⟨s, 0, none⟩ 1 c p.cs.toList hy rfl ?_ ?_ (by decide) ?_ ?_ hb _ rfl fun g cap w' h1 h2 _ _ => ?_)
  · intro j u hu
    rw [Addr.add_lit, Nat.zero_add, hs.cell]
    simpa using hu
  · simp [Pg.cs, Value.oneCell']
  · simp only [maxLen]; omega
  · omega
  · rw [hd]
    refine h g cap w' ?_ h2
    unfold POwn
    rw [List.length_append, List.length_singleton, flatPg_app]
    exact h1
theorem pk_run {P : Program} (hi : ops[i]? = some o) (hw : Region.wanted o (yielded ops a.tmps) = true) (d : Nat) (hd : o.dst = some d) (v : Value) (w' : World) (hr : (execOp a.eval o).run P w = .ok (.value v) w') (h : K (a.put (some d) v) w') : wpOp P ops Q i K a w := by
  refine pk_wp hi hw ?_
  unfold Oper.wp
  rw [hr]
  simp only [Oper.upon, hd]
  exact h
theorem pk_two {P : Program} {md : Region.Mode} {S : World → Prop} {fuel : Nat} {listed : Array Bool} (i j : Nat) (hr : Region.ready md ops listed = [i, j])
    (h1 : wpOp P ops Q i (fun a' w' => S w' ∧ wpAnyH P md ops Q S fuel (listed.setIfInBounds i true) a' w') a w)
    (h2 : wpOp P ops Q j (fun a' w' => S w' ∧ wpAnyH P md ops Q S fuel (listed.setIfInBounds j true) a' w') a w) : wpAnyH P md ops Q S (fuel + 1) listed a w :=
  wpAnyH_all hr (by simp) fun q hq => by
    rcases (show q = i ∨ q = j by simpa using hq) with rfl | rfl
    · exact h1
    · exact h2
theorem pk_load_sl (hi : ops[i]? = some o) (hw : Region.wanted o (yielded ops a.tmps) = true) (d : Nat) (hd : o.dst = some d) (y : Operand) (ho : o.op = .load 56 y) (g k : Nat) (u : Value)
    (hx : a.eval y = .pointer (some ⟨g, k, none⟩)) (c0 : w.cell? ⟨g, k, none⟩ = some u) (h : K (a.put (some d) u) w) : wpOp Try.prog ops Q i K a w := by
  refine pk_wp hi hw ?_
  unfold Oper.wp execOp
  simp only [ho, hx]
  go_simp
  first | exact h | (simp only [hd]; exact h) | (trace_state; fail)
theorem pk_store_sl (hi : ops[i]? = some o) (x y : Operand) (ho : o.op = .store 56 x y) (hd : o.dst = none) (hw : Region.wanted o (yielded ops a.tmps) = true) (g k : Nat) (ad : Option Addr) (n c : Nat) (u : Value)
    (hx : a.eval x = .pointer (some ⟨g, k, none⟩)) (hy : a.eval y = .slice ad n c) (c0 : w.cell? ⟨g, k, none⟩ = some u) (hu : u.oneCell' = true) (f0 : w.frozen? ⟨g, k, none⟩ = false) (h : K a (w.setCell ⟨g, k, none⟩ (.slice ad n c))) : wpOp Try.prog ops Q i K a w := by
  refine pk_wp hi hw ?_
  unfold Oper.wp execOp
  simp only [ho, hx, hy]
  go_simp
  exact h
end
open Classical in
noncomputable def pfStep (pages : Nat) (s : Nat × (Nat → Pg)) (c : Cp) : Nat × (Nat → Pg) :=
  if c.k = 1 then ((apF s.1 c.v.size).1, if (apF s.1 c.v.size).2.2 = 0 ∧ putGood pages c.id c.p then updN s.2 c.id.toNat c.p else s.2) else s
open Classical in
noncomputable def pfAt (pages : Nat) (s : Nat × (Nat → Pg)) (id : Int) : Pg := if 0 ≤ id ∧ id < (pages : Int) then s.2 id.toNat else Pg.zero
noncomputable def pfSt (pages : Nat) (cl : List Cp) : Nat → Nat × (Nat → Pg)
  | 0 => (54, fun _ => Pg.zero)
  | j + 1 => pfStep pages (pfSt pages cl j) (cl.getD j Cp.zero)
noncomputable def pfGot (pages : Nat) (cl : List Cp) : Nat → List Pg
  | 0 => []
  | j + 1 => pfGot pages cl j ++ [pfAt pages (pfSt pages cl (j + 1)) (cl.getD j Cp.zero).id]
theorem pfGot_len (pages : Nat) (cl : List Cp) : ∀ j, (pfGot pages cl j).length = j
  | 0 => rfl
  | j + 1 => by
    show (pfGot pages cl j ++ [_]).length = _
    rw [List.length_append, pfGot_len pages cl j]; rfl
theorem pfStep_good {pages : Nat} {F : Nat} {Now : Nat → Pg} {c : Cp} (h : c.k = 1) (he : (apF F c.v.size).2.2 = 0) (hg : putGood pages c.id c.p) : pfStep pages (F, Now) c = ((apF F c.v.size).1, updN Now c.id.toNat c.p) := by
  unfold pfStep
  rw [if_pos h, if_pos ⟨he, hg⟩]
theorem pfStep_bad {pages : Nat} {F : Nat} {Now : Nat → Pg} {c : Cp} (h : c.k = 1) (hb : (apF F c.v.size).2.2 ≠ 0 ∨ ¬ putGood pages c.id c.p) : pfStep pages (F, Now) c = ((apF F c.v.size).1, Now) := by
  unfold pfStep
  rw [if_pos h, if_neg (fun h2 => hb.elim (fun e => e h2.1) (fun e => e h2.2))]
theorem pfStep_else {pages : Nat} {s : Nat × (Nat → Pg)} {c : Cp} (h : ¬ c.k = 1) : pfStep pages s c = s := if_neg h
def nilS : Value := .slice none 0 0
theorem POwn.nil (w : World) (base : Nat) : POwn w base nilS [] := World.ownsRow_nil _ _ _ _
/-- Between two pools of PoolFrames. -/
structure PfO (w0 w : World) (GT FB : Nat) (a b : Int) (k : Nat) (L : List Pg) (cs : Array Value) : Prop where
  gt : Bk w GT 57 cs
  sz : cs.size = 2
  fb : Bk w FB 3 #[.int .i64 a, .int .i64 b]
  got : ∀ i, i < k → ∃ v, cs[i]? = some v ∧ POwn w w0.heap.size v L
  new : ∀ i, k ≤ i → i < 2 → cs[i]? = some nilS
  bw : Below w0.heap.size w0 w
  gg : w0.heap.size ≤ GT
/-- Between two calls: all but the pool. -/
structure PfC (w0 w1 w : World) (GT : Nat) (k j : Nat) (cl : List Cp) (cs0 cs : Array Value) (x : Value) : Prop where
  gt : Bk w GT 57 cs
  sz : cs.size = 2
  at_ : cs[k]? = some x
  oth : ∀ i, i ≠ k → cs[i]? = cs0[i]?
  own : POwn w w1.heap.size x (pfGot 8 cl j)
  but : But w1 w GT
  bw : Below w0.heap.size w0 w
def PfI (w0 w1 w : World) (GT : Nat) (gd gl gp fr : Nat) (k j : Nat) (cl : List Cp) (cs0 cs : Array Value) (x : Value) : Prop :=
  PfC w0 w1 w GT k j cl cs0 cs x ∧ ∃ St, Vw w w1.heap.size gd gl gp 8 fr (pfSt 8 cl j).1 (4102 * (pfSt 8 cl j).1) (pfSt 8 cl j).2 St (fun _ => True)
theorem PfC.kept {w0 w1 w w' : World} {GT k j : Nat} {cl : List Cp} {cs0 cs : Array Value} {x : Value} (h : PfC w0 w1 w GT k j cl cs0 cs x) (hb : Below w.heap.size w w') : PfC w0 w1 w' GT k j cl cs0 cs x :=
  ⟨h.gt.kept hb, h.sz, h.at_, h.oth, ow_kept h.own hb, h.but.below (hb.mono h.but.1), below_then h.bw hb h.bw.size⟩
theorem PfC.alloc {w0 w1 w : World} {GT k j : Nat} {cl : List Cp} {cs0 cs : Array Value} {x : Value} (h : PfC w0 w1 w GT k j cl cs0 cs x) (o : Obj) : PfC w0 w1 (w.alloc o) GT k j cl cs0 cs x := h.kept ((Below.refl w.heap.size w).alloc (Nat.le_refl _) o)
theorem PfC.out {w0 w1 w w' : World} {GT k j : Nat} {cl : List Cp} {cs0 cs : Array Value} {x : Value} (h : PfC w0 w1 w GT k j cl cs0 cs x) (ho : Out w w' (PI w1.heap.size w)) (pg : ¬ plI 57) (pp : ¬ plI 40) (sb : w0.heap.size ≤ w1.heap.size) : PfC w0 w1 w' GT k j cl cs0 cs x :=
  ⟨bk_pi ho h.gt pg, h.sz, h.at_, h.oth, own_pi h.own ho pp, h.but.below (pi_below ho h.but.1), h.bw.trans ((pi_below ho h.but.1).mono sb)⟩
theorem pi_then {a b c : World} {B : Nat} (h : Out a b (PI B a)) (k : Out b c (PI B b)) : Out a c (PI B a) :=
  h.then_ k fun i hi ⟨h1, t, cs, hc, ht⟩ => Classical.byContradiction fun hn => hn ⟨h1, t, cs, ((h.block i hi hn).symm.trans hc), ht⟩
/-- A volume under way, while blocks of no type of the pool's turn. -/
theorem Vw.other {w w' : World} {B gd gl gp pages frames F q : Nat} {Now : Nat → Pg} {St : Nat → Nat} {D : Int → Prop} (h : Vw w B gd gl gp pages frames F q Now St D) (hs : w.heap.size ≤ w'.heap.size) (hb : ∀ k t cs, Bk w k t cs → plI t → w'.heap[k]? = w.heap[k]?) : Vw w' B gd gl gp pages frames F q Now St D := by
  obtain ⟨I, J, P, L, S, hp, h⟩ := h
  refine ⟨I, J, P, L, S, ⟨hp.wl.pool fun j _ ⟨t, cs, hc, ht⟩ => hb j t cs hc ?_, hp.pq.of_same fun j _ ⟨t, cs, hc, ht⟩ => hb j t cs hc ?_, hp.ed, hp.el, hp.pv, hp.fb, Nat.le_trans hp.hB hs⟩, h⟩
  · unfold plI plT
    rcases ht with rfl | rfl | rfl | rfl | rfl | rfl <;> simp
  · unfold plI plT
    rcases ht with rfl | rfl | rfl <;> simp
theorem Vw.row_kept {w w' : World} {B gd gl gp pages frames F q : Nat} {Now : Nat → Pg} {St : Nat → Nat} {D : Int → Prop} (h : Vw w B gd gl gp pages frames F q Now St D) {r : Option Nat} (hg : w.grownBy w' r) (hr : ∀ k, r = some k → ∃ t cs, Bk w k t cs ∧ ¬ plI t) : Vw w' B gd gl gp pages frames F q Now St D :=
  h.other hg.size fun k t cs hc ht => hg.block k hc.lt fun e => by
    obtain ⟨t2, cs2, hc2, h2⟩ := hr k e.symm
    have e2 : t = t2 := Classical.byContradiction fun hne => Bk.ne_ hc hc2 hne rfl
    exact h2 (e2 ▸ ht)
theorem Vw.set {w : World} {B gd gl gp pages frames F q : Nat} {Now : Nat → Pg} {St : Nat → Nat} {D : Int → Prop} (h : Vw w B gd gl gp pages frames F q Now St D) {g : Nat} {t : TypeId} {cs : Array Value} (hg : Bk w g t cs) (ht : ¬ plI t) (i : Nat) (u : Value) : Vw (w.setCell ⟨g, i, none⟩ u) B gd gl gp pages frames F q Now St D :=
  h.other (by simp [World.setCell]) fun k t2 cs2 hc h2 => Below.heap_setCell w ⟨g, i, none⟩ u k (Bk.ne_ hc hg fun e => ht (e ▸ h2))
section
variable {ops : Array Oper} {Q : Exit → Act → World → Prop} {K : Act → World → Prop} {o : Oper} {a : Act} {w : World} {E : Prop}
theorem step_page (hgd : o.guard = none) (y : Operand) (ho : o.op = .load 40 y) (g : Nat) (p : Pg) (hx : a.eval y = .pointer (some ⟨g, 0, none⟩)) (hb : Bk w g 40 p.cs) (h : K (a.put o.dst (.agg p.cs)) w) :
    if Region.wanted o (yielded ops a.tmps) = true then Oper.wp Try.prog o a w K Q else E := by
  have hw : Region.wanted o (yielded ops a.tmps) = true := by simp [Region.wanted, hgd]
  rw [if_pos hw]
  exact wp_load_row 40 y ho g hx 40 p.cs (0, 0) _ hb Try.underlying40 rfl (by rw [show p.cs.size = 16 from rfl]; kernel_rfl) h
theorem step_slice1 (hgd : o.guard = none) (y : Operand) (ho : o.op = .buildSlice 56 1 #[(0, y)]) (p : Pg) (hy : a.eval y = .agg p.cs)
    (h : K (a.put o.dst (.slice (some ⟨w.heap.size, 0, none⟩) 1 1)) (w.alloc (.cells p.cs 40))) : if Region.wanted o (yielded ops a.tmps) = true then Oper.wp Try.prog o a w K Q else E := by
  have hw : Region.wanted o (yielded ops a.tmps) = true := by simp [Region.wanted, hgd]
  rw [if_pos hw]
  obtain ⟨i0, hi0, hz0, hz1, hz2⟩ := info_parts pinfo_page
  refine wp_buildSlice 56 40 1 #[(0, y)] ho p.cs i0 _ Try.underlying56 hi0 hz0 (by rw [hz1]; decide) (by rw [hz1]; decide) ?_ h
  rw [hz1]
  simp only [List.map_toArray, List.map_cons, List.map_nil, hy]
  kernel_rfl
theorem step_append_pg (hgd : o.guard = none) (x y : Operand) (ho : o.op = .call { callee := .builtin .append, args := #[x, y], argTypes := #[56, 56] })
    (base : Nat) (v : Value) (n : Nat) (ps : List Pg) (hn : ps.length = n) (hx : a.eval x = v) (hown : POwn w base v ps) (s c : Nat) (p : Pg) (hy : a.eval y = .slice (some ⟨s, 0, none⟩) 1 c) (hs : Bk w s 40 p.cs) (hlen : n ≤ 1000000) (hb : base ≤ w.heap.size)
    (h : ∀ g cap w', POwn w' base (.slice (some ⟨g, 0, none⟩) (n + 1) cap) (ps ++ [p]) → w.grownBy w' v.ownBlock → K (a.put o.dst (.slice (some ⟨g, 0, none⟩) (n + 1) cap)) w') :
    if Region.wanted o (yielded ops a.tmps) = true then Oper.wp Try.prog o a w K Q else E := by
  subst hn
  have hw : Region.wanted o (yielded ops a.tmps) = true := by simp [Region.wanted, hgd]
  rw [if_pos hw]
  obtain ⟨i0, hi0, hz0, hz1, hz2⟩ := info_parts pinfo_page
  refine wp_append_lies w x y 56 ho base 40 i0 (.agg Pg.zero.cs) 16 176 Try.underlying56 hi0 hz0 hz1 hz2 rfl (by decide) v ps.length (flatPg ps) hx hown ⟨s, 0, none⟩ 1 c p.cs.toList hy rfl ?_ ?_ (by decide) ?_ ?_ hb _ rfl fun g cap w' h1 h2 _ _ => ?_
  · intro j u hu
    rw [Addr.add_lit, Nat.zero_add, hs.cell]
    simpa using hu
  · simp [Pg.cs, Value.oneCell']
  · simp only [maxLen]; omega
  · omega
  · refine h g cap w' ?_ h2
    unfold POwn
    rw [List.length_append, List.length_singleton, flatPg_app]
    exact h1
end
/-- What stands behind the append and the store. -/
theorem PfI.close {w0 w1 wv w4 : World} {GT gd gl gp fr k j : Nat} {cl : List Cp} {cs0 cs : Array Value} {xa : Option Addr} {xc g cap : Nat} {x : Pg} {St : Nat → Nat} {s : Nat × (Nat → Pg)} (hC : PfC w0 w1 wv GT k j cl cs0 cs (.slice xa j xc)) (hV : Vw wv w1.heap.size gd gl gp 8 fr s.1 (4102 * s.1) s.2 St (fun _ => True))
    (hs : s = pfSt 8 cl (j + 1)) (hgot : pfGot 8 cl (j + 1) = pfGot 8 cl j ++ [x]) (hO : POwn w4 w1.heap.size (.slice (some ⟨g, 0, none⟩) (j + 1) cap) (pfGot 8 cl j ++ [x])) (hg : wv.grownBy w4 (Value.slice xa j xc).ownBlock)
    (pg : ¬ plI 57) (pp : ¬ plI 40) (sb : w0.heap.size ≤ w1.heap.size) (gg : w0.heap.size ≤ GT) (g1 : GT < w1.heap.size) :
    PfI w0 w1 (w4.setCell ⟨GT, k, none⟩ (.slice (some ⟨g, 0, none⟩) (j + 1) cap)) GT gd gl gp fr k (j + 1) cl cs0 (cs.setIfInBounds k (.slice (some ⟨g, 0, none⟩) (j + 1) cap)) (.slice (some ⟨g, 0, none⟩) (j + 1) cap) := by
  have hrow : ∀ q, (Value.slice xa j xc).ownBlock = some q → w1.heap.size ≤ q ∧ ∃ cur, Bk wv q 40 cur := fun q hq => ⟨(ow_blk hC.own hq).1, (ow_blk hC.own hq).2.2⟩
  have hgt4 : Bk w4 GT 57 cs := hC.gt.grown hg (fun e => by obtain ⟨-, cur, hc⟩ := hrow _ e.symm; exact Bk.ne_ hC.gt hc (by decide) rfl)
  have hk : k < cs.size := (Array.getElem?_eq_some_iff.1 hC.at_).1
  refine ⟨⟨hgt4.set k _, by rw [Array.size_setIfInBounds]; exact hC.sz, ?_, fun i hi => ?_, ?_, (hC.but.grown hg fun q hq => (hrow q hq).1).set k _, ?_⟩, St, ?_⟩
  · rw [Array.getElem?_setIfInBounds_self_of_lt hk]
  · rw [Array.getElem?_setIfInBounds_ne (Ne.symm hi)]; exact hC.oth i hi
  · rw [hgot]
    exact owns_of_block hO fun q hq => Below.heap_setCell w4 ⟨GT, k, none⟩ _ q (by have := (ow_blk hO hq).1; show q ≠ GT; omega)
  · exact (bl_grow hC.bw hg (fun q hq => Nat.le_trans sb (hrow q hq).1) hC.bw.size).setCell (p := ⟨GT, k, none⟩) gg _
  · rw [← hs]
    exact (hV.row_kept hg fun q hq => ⟨_, _, (hrow q hq).2.choose_spec, pp⟩).set hgt4 pg k _
theorem PfO.next {w0 w1 w : World} {GT FB : Nat} {a b : Int} {k len : Nat} {cl : List Cp} {cs0 cs : Array Value} {x : Value} (h : PfO w0 w1 GT FB a b k (pfGot 8 cl len) cs0) (hC : PfC w0 w1 w GT k len cl cs0 cs x) (sb : w0.heap.size ≤ w1.heap.size) (g1 : GT < w1.heap.size) (hk : k < 2) : PfO w0 w GT FB a b (k + 1) (pfGot 8 cl len) cs where
  gt := hC.gt
  sz := hC.sz
  fb := hC.but.bk h.fb (Bk.ne_ h.fb h.gt (by decide))
  got := fun i hi => by
    by_cases e : i = k
    · subst e
      exact ⟨x, hC.at_, ow_mono hC.own sb⟩
    · obtain ⟨v, h1, h2⟩ := h.got i (by omega)
      exact ⟨v, (hC.oth i e).trans h1, hC.but.own h2 h.gt (by decide)⟩
  new := fun i hi h2 => (hC.oth i (by omega)).trans (h.new i (by omega) h2)
  bw := hC.bw
  gg := h.gg
theorem apF_cases {F : Nat} (hF : F ≤ 6966) (z : Nat) : ((apF F z).2.2 = 0 ∧ F + 3 ≤ (apF F z).1 ∧ (apF F z).2.1 = F) ∨ ((apF F z).2.2 ≠ 0 ∧ (apF F z).1 = F) := by
  unfold apF
  split
  · exact .inr ⟨show (1 : Int) ≠ 0 by decide, rfl⟩
  split
  · exact .inr ⟨show (2 : Int) ≠ 0 by decide, rfl⟩
  split
  · exact .inr ⟨show (70 : Int) ≠ 0 by decide, rfl⟩
  · exact .inl ⟨rfl, by show F + 3 ≤ F + (2 + z); omega, rfl⟩
end Go.Proofs.Ytgafajbdmegfgaa
