/- Layer 12: a slot changed, a slot more; spare. -/
import Derived.Test.YtgafajbdmegfgaaGreatPolMem
import Derived.ScopeJumps
import Derived.Scope
set_option linter.unusedVariables false
set_option linter.unusedSimpArgs false
namespace Go.Proofs.YtgafajbdmegfgaaGreat
open Go.RowKit

def plT (t : TypeId) : Prop := t = 75 ∨ t = 82 ∨ t = 83 ∨ t = 71 ∨ t = 78 ∨ t = 93 ∨ t = 5 ∨ t = 9
/-- The pool's own blocks. -/
def SF (B : Nat) (w : World) (k : Nat) : Prop := B ≤ k ∧ ∃ t cs, Bk w k t cs ∧ (t = 75 ∨ t = 82 ∨ t = 83)
/-- What the pool's own work may touch: blocks from B on, of the pool's, the log's and the device's types. -/
def PF (B : Nat) (w : World) (k : Nat) : Prop := B ≤ k ∧ ∃ t cs, Bk w k t cs ∧ plT t
theorem pf_then {a b c : World} {B : Nat} (h : Out a b (PF B a)) (k : Out b c (PF B b)) : Out a c (PF B a) :=
  h.then_ k fun i hi ⟨h1, t, cs, hc, ht⟩ => Classical.byContradiction fun hn => hn ⟨h1, t, cs, ((h.block i hi hn).symm.trans hc), ht⟩
theorem sf_then {a b c : World} {B : Nat} (h : Out a b (SF B a)) (k : Out b c (SF B b)) : Out a c (SF B a) :=
  h.then_ k fun i hi ⟨h1, t, cs, hc, ht⟩ => Classical.byContradiction fun hn => hn ⟨h1, t, cs, ((h.block i hi hn).symm.trans hc), ht⟩
theorem sf_pf {a b : World} {B : Nat} (h : Out a b (SF B a)) : Out a b (PF B a) := h.mono fun i _ ⟨h1, t, cs, hc, ht⟩ => ⟨h1, t, cs, hc, by
  rcases ht with e | e | e
  · exact .inl e
  · exact .inr (.inl e)
  · exact .inr (.inr (.inl e))⟩
theorem sf_grown {w w' : World} {B k : Nat} {t : TypeId} {cs : Array Value} (hg : w.grownBy w' (some k)) (hk : Bk w k t cs) (ht : t = 75 ∨ t = 82 ∨ t = 83) (hB : B ≤ k) : Out w w' (SF B w) :=
  .of_grown hg fun j hj _ => by injection hj with hj; subst hj; exact ⟨hB, t, cs, hk, ht⟩
theorem pf_below {w w' : World} {B : Nat} (h : Out w w' (PF B w)) (hB : B ≤ w.heap.size) : Below B w w' := h.below hB fun k hk => hk.1
theorem pf_grown {w w' : World} {B k : Nat} {t : TypeId} {cs : Array Value} (hg : w.grownBy w' (some k)) (hk : Bk w k t cs) (ht : plT t) (hB : B ≤ k) : Out w w' (PF B w) :=
  .of_grown hg fun j hj _ => by injection hj with hj; subst hj; exact ⟨hB, t, cs, hk, ht⟩
theorem bk_pf {w w' : World} {B k : Nat} {t : TypeId} {cs : Array Value} (h : Out w w' (PF B w)) (hk : Bk w k t cs) (ht : ¬ plT t) : Bk w' k t cs :=
  h.bk hk fun ⟨_, t', cs', hc, ht'⟩ => by
    have e : t = t' := Classical.byContradiction fun hne => Bk.ne_ hk hc hne rfl
    subst e
    exact ht ht'
theorem own_pf {w w' : World} {B base : Nat} {e : TypeId} {size : Nat} {v : Value} {n : Nat} {xs : List Value} (h : w.ownsRow base e size v n xs) (ho : Out w w' (PF B w)) (ht : ¬ plT e) : w'.ownsRow base e size v n xs :=
  owns_of_block h fun k hk => by
    obtain ⟨h1, h2, c, hc⟩ := owns_block h hk
    exact (bk_pf ho hc ht).trans hc.symm
/-- A log and its device, while the pool's own blocks are worked on. -/
theorem Wl.pool {w w' : World} {B : Nat} {I : Wd} {L : Lg} {S : Dsk} (h : Wl w B I L S) (hb : ∀ k, k < w.heap.size → (∃ t cs, Bk w k t cs ∧ (t = 71 ∨ t = 78 ∨ t = 9 ∨ t = 93 ∨ t = 5 ∨ t = 3)) → w'.heap[k]? = w.heap[k]?) : Wl w' B I L S where
  box := (hb _ h.box.lt ⟨_, _, h.box, .inl rfl⟩).trans h.box
  bg := h.bg
  dsk := h.dsk.of_same fun k hk => by
    have hlt := (h.dsk.foot_lt hk).2
    rcases hk with rfl | rfl | rfl | hk
    · exact hb _ hlt ⟨_, _, h.dsk.box, .inr (.inl rfl)⟩
    · obtain ⟨c, hc, _⟩ := h.dsk.firm; exact hb _ hlt ⟨_, _, hc, .inr (.inr (.inl rfl))⟩
    · obtain ⟨c, hc, _⟩ := h.dsk.now; exact hb _ hlt ⟨_, _, hc, .inr (.inr (.inl rfl))⟩
    · obtain ⟨_, _, c, hc⟩ := owns_block h.dsk.pend hk; exact hb _ hlt ⟨_, _, hc, .inr (.inr (.inr (.inl rfl)))⟩
  dat := owns_of_block h.dat fun k hk => by
    obtain ⟨h1, h2, c, hc⟩ := owns_block h.dat hk
    exact hb _ h2 ⟨_, _, hc, .inr (.inr (.inr (.inr (.inl rfl))))⟩
  plc := owns_of_block h.plc fun k hk => by
    obtain ⟨h1, h2, c, hc⟩ := owns_block h.plc hk
    exact hb _ h2 ⟨_, _, hc, .inr (.inr (.inr (.inr (.inr rfl))))⟩
  ok := h.ok
theorem Wl.sf {w w' : World} {B B' : Nat} {I : Wd} {L : Lg} {S : Dsk} (h : Wl w B I L S) (ho : Out w w' (SF B' w)) : Wl w' B I L S :=
  h.pool fun j hj ⟨t', cs', hc, ht'⟩ => ho.block j hj fun ⟨_, t, cs, hk, ht⟩ => by
    have e : t = t' := Classical.byContradiction fun hne => Bk.ne_ hk hc hne rfl
    subst e
    rcases ht with rfl | rfl | rfl <;> revert ht' <;> decide
/-- .. where just one block of another type is changed. -/
theorem Wl.one {w w' : World} {B k : Nat} {I : Wd} {L : Lg} {S : Dsk} (h : Wl w B I L S) {t : TypeId} {cs : Array Value} (hg : w.grownBy w' (some k)) (hk : Bk w k t cs) (ht : t = 75 ∨ t = 82 ∨ t = 83) : Wl w' B I L S :=
  h.pool fun j hj ⟨t', cs', hc, ht'⟩ => hg.block j hj fun e => by
    injection e with e
    subst e
    have e : t = t' := Classical.byContradiction fun hne => Bk.ne_ hk hc hne rfl
    subst e
    rcases ht with rfl | rfl | rfl <;> revert ht' <;> decide
theorem Wl.row {w w' : World} {B B' : Nat} {I : Wd} {L : Lg} {S : Dsk} (h : Wl w B I L S) {e : TypeId} {size n : Nat} {v : Value} {xs : List Value} (ho : w.ownsRow B' e size v n xs) (hg : w.grownBy w' v.ownBlock) (ht : e = 75 ∨ e = 82 ∨ e = 83) : Wl w' B I L S :=
  h.pool fun j hj ⟨t', cs', hc, ht'⟩ => hg.block j hj fun e1 => by
    obtain ⟨_, _, c, hc2⟩ := owns_block ho e1.symm
    have e : e = t' := Classical.byContradiction fun hne => Bk.ne_ hc2 hc hne rfl
    subst e
    rcases ht with rfl | rfl | rfl <;> revert ht' <;> decide
namespace Pq
variable {w w' : World} {B : Nat} {J : Pd} {P : Po}
theorem ne_slot (h : Pq w B J P) {b : Nat} (hb : b ∈ J.bs) : J.g ≠ b := by
  obtain ⟨j, hj, rfl⟩ := List.mem_iff_getElem.1 hb
  exact Bk.ne_ h.box (h.sl j hj (by rw [← h.bl]; exact hj)) (by decide)
/-- One slot is another from now on. -/
theorem put (h : Pq w B J P) (j : Nat) (hj : j < P.ss.length) (hb : j < J.bs.length) (s : Sl) (hg : w.grownBy w' (some J.bs[j])) (hk : Bk w' (J.bs[j]) 82 s.cs) (hok : Po.ok { P with ss := P.ss.set j s }) : Pq w' B J { P with ss := P.ss.set j s } where
  box := (hg.block _ h.box.lt (by intro e; injection e with e; exact h.ne_slot (List.getElem_mem hb) e)).trans h.box
  bg := h.bg
  row := by
    have := owns_of_block h.row (w' := w') fun k hk => by
      obtain ⟨h1, h2, c, hc⟩ := owns_block h.row hk
      exact hg.block k h2 (by intro e; injection e with e; exact Bk.ne_ hc (h.sl j hb hj) (by decide) e)
    simpa using this
  bl := by simpa using h.bl
  sl := fun i h1 h2 => by
    by_cases e : i = j
    · subst e; simpa using hk
    · have h3 : i < P.ss.length := by simpa using h2
      have h4 : (P.ss.set j s)[i]'h2 = P.ss[i] := List.getElem_set_ne (Ne.symm e) _
      show Bk w' (J.bs[i]) 82 ((P.ss.set j s)[i]'h2).cs
      rw [h4]
      refine (hg.block _ (h.sl i h1 h3).lt ?_).trans (h.sl i h1 h3)
      intro e2
      injection e2 with e2
      exact e ((List.getElem_inj h.nd).1 e2)
  bb := h.bb
  nd := h.nd
  ok := hok
theorem setHand (h : Pq w B J P) (n : Nat) (hn : n < P.ss.length) : Pq (w.setCell ⟨J.g, 6, none⟩ (.int .i64 (n : Int))) B J { P with hand := n } where
  box := h.box.set 6 (.int .i64 (n : Int))
  bg := h.bg
  row := owns_of_block h.row fun k hk => by
    obtain ⟨h1, h2, c, hc⟩ := owns_block h.row hk
    exact Below.heap_setCell w _ _ k (by intro e; exact Bk.ne_ hc h.box (by decide) e)
  bl := h.bl
  sl := fun i h1 h2 => (h.sl i h1 h2).far (by intro e; exact h.ne_slot (List.getElem_mem h1) e.symm) _
  bb := h.bb
  nd := h.nd
  ok := { h.ok with hand := .inr hn }
theorem used (h : Pq w B J P) (j : Nat) (hj : j < P.ss.length) (hb : j < J.bs.length) (u : Bool) : Pq (w.setCell ⟨J.bs[j], 19, none⟩ (.bool u)) B J { P with ss := P.ss.set j { P.ss[j] with us := u } } := by
  have a := h.ok.ids _ (List.getElem_mem hj)
  have b := h.ok.stb _ (List.getElem_mem hj)
  exact h.put j hj hb _ (only_set ⟨rfl, rfl, rfl, Nat.le_refl _, fun _ _ _ => rfl⟩ 19 _) ((h.sl j hb hj).set 19 (.bool u))
    (h.ok.set hj _ a b (fun i hi hne e => by
      have := h.ok.one i j hi hj hne e
      exact e ▸ this))
/-- A slot more, that nobody has had. -/
theorem more (h : Pq w B J P) {b : Nat} {v : Value} (hf : P.ss.length < P.frames) (hk : Bk w' b 82 Sl.fresh.cs) (hb : w.heap.size ≤ b) (hB : B ≤ b)
    (hbox : Bk w' J.g 75 ({ J with sv := v }.box P)) (hrow : w'.ownsRow B 83 1 v (P.ss.length + 1) (ptrs (J.bs ++ [b]))) (hsl : ∀ k cs, Bk w k 82 cs → Bk w' k 82 cs) :
    Pq w' B { J with sv := v, bs := J.bs ++ [b] } { P with ss := P.ss ++ [Sl.fresh] } where
  box := hbox
  bg := h.bg
  row := by simpa using hrow
  bl := by simp [h.bl]
  sl := fun i h1 h2 => by
    by_cases e : i < P.ss.length
    · have e' : i < J.bs.length := by rw [h.bl]; exact e
      show Bk w' ((J.bs ++ [b])[i]'h1) 82 ((P.ss ++ [Sl.fresh])[i]'h2).cs
      rw [List.getElem_append_left e', List.getElem_append_left e]
      exact hsl _ _ (h.sl i e' e)
    · have e1 : i = P.ss.length := by simp at h2; omega
      subst e1
      show Bk w' ((J.bs ++ [b])[P.ss.length]'h1) 82 ((P.ss ++ [Sl.fresh])[P.ss.length]'h2).cs
      rw [List.getElem_append_right (by rw [h.bl]; exact Nat.le_refl _), List.getElem_append_right (Nat.le_refl _)]
      simpa [h.bl] using hk
  bb := fun x hx => by
    rcases List.mem_append.1 hx with hx | hx
    · exact h.bb x hx
    · rw [List.mem_singleton.1 hx]; exact hB
  nd := by
    rw [List.nodup_append]
    refine ⟨h.nd, by simp, fun x hx y hy e => ?_⟩
    rw [List.mem_singleton.1 hy] at e
    have := h.slt hx
    omega
  ok := {
    b0 := h.ok.b0, p1 := h.ok.p1, p2 := h.ok.p2, f1 := h.ok.f1, f2 := h.ok.f2
    len := by simp; omega
    hand := by rcases h.ok.hand with e | e; exact .inl e; exact .inr (by simp; omega)
    ids := fun s hs => by
      rcases List.mem_append.1 hs with hs | hs
      · exact h.ok.ids s hs
      · rw [List.mem_singleton.1 hs]; exact .inl rfl
    stb := fun s hs => by
      rcases List.mem_append.1 hs with hs | hs
      · exact h.ok.stb s hs
      · rw [List.mem_singleton.1 hs]; exact Nat.zero_le _
    one := fun i j hi hj hne e => by
      have lf : ∀ k (hk : k < (P.ss ++ [Sl.fresh]).length), k < P.ss.length ∨ ((P.ss ++ [Sl.fresh])[k]'hk).id = -1 := fun k hk => by
        by_cases e : k < P.ss.length
        · exact .inl e
        · have : k = P.ss.length := by simp at hk; omega
          subst this
          right
          rw [List.getElem_append_right (Nat.le_refl _)]
          simp [Sl.fresh]
      change ((P.ss ++ [Sl.fresh])[i]'hi).id = ((P.ss ++ [Sl.fresh])[j]'hj).id at e
      show ((P.ss ++ [Sl.fresh])[i]'hi).id = -1
      rcases lf i hi with h1 | h1
      · rcases lf j hj with h2 | h2
        · rw [List.getElem_append_left h1, List.getElem_append_left h2] at e
          rw [List.getElem_append_left h1]
          exact h.ok.one i j h1 h2 hne e
        · rw [e]; exact h2
      · exact h1 }
end Pq
theorem Tryz.info83 : (Tryz.prog.info? 83).map (fun i => (i.zero, i.size, i.bytes)) = some (some (.pointer none), 1, 8) := by kernel_rfl
theorem ptrs_app (l : List Nat) (b : Nat) : ptrs (l ++ [b]) = ptrs l ++ [.pointer (some ⟨b, 0, none⟩)] := by unfold ptrs; rw [List.map_append]; rfl
def SpPost (w : World) (B : Nat) (J : Pd) (P : Po) (e : Ending) (w' : World) : Prop :=
  ∃ (i : Nat) (ok : Bool) (J' : Pd) (P' : Po), e = .returned (.tuple #[.int .i64 (i : Int), .bool ok]) ∧ Pq w' B J' P' ∧ Sp P P' i ok ∧ J'.g = J.g ∧ J'.dp = J.dp ∧ J'.lp = J.lp ∧ Out w w' (SF B w)
theorem likeS.refl (s : Sl) : likeS s s := ⟨rfl, rfl, rfl, rfl⟩
theorem likeS.trans {a b c : Sl} (h : likeS a b) (k : likeS b c) : likeS a c := ⟨h.1.trans k.1, h.2.1.trans k.2.1, h.2.2.1.trans k.2.2.1, h.2.2.2.trans k.2.2.2⟩
set_option maxRecDepth 100000 in
set_option maxHeartbeats 4000000 in
theorem spare_more {w : World} {B : Nat} {J : Pd} {P : Po} (h : Pq w B J P) (hB : B ≤ w.heap.size) (hf : P.ss.length < P.frames) :
    Calls Tryz.prog 28 #[J.ptr] w (SpPost w B J P) := by
  obtain ⟨i0, hi, hz0, hz1, hz2⟩ := info_parts Tryz.info83
  obtain ⟨sa, sc, hsv⟩ := h.slice
  have SV := Lib.hid hsv
  obtain ⟨-, -, -, -, c4, c5, -⟩ := h.cells
  rw [hsv] at c5
  obtain ⟨n, hn⟩ : ∃ n, n = P.ss.length := ⟨_, rfl⟩
  have HN := Lib.hid hn
  rw [← hn] at c5
  have n256 : n ≤ 256 := by rw [hn]; exact h.few
  have hfI : (n : Int) < (P.frames : Int) := by rw [hn]; omega
  have hfd : decide ((n : Int) < (P.frames : Int)) = true := decide_eq_true hfI
  have H := Lib.hid h; have HB := Lib.hid hB; have HF := Lib.hid hf; have N2 := Lib.hid n256
  have RO := Lib.hid h.row
  rw [hsv, ← hn] at RO
  clear h hn hsv hB hf
  unfold Pd.ptr
  go_enter Tryz.func28, Tryz.ntmps28
  go_wp2
  refine wp_scope_straight ?_
  go_wp2_with fail
  go_quiet (fail)
  have d5 : (w.drewN nq).cell? ⟨J.g, 5, none⟩ = some (.slice sa n sc) := c5
  have BX1 := Lib.hid (show Bk (w.drewN nq) J.g 75 (J.box P) from H.out.box)
  have H1 := Lib.hid (H.out.drewN nq)
  have RO1 := Lib.hid (show (w.drewN nq).ownsRow B 83 1 (.slice sa n sc) n (ptrs J.bs) from RO.out)
  have O1 := Lib.hid (show Out w (w.drewN nq) (SF B w) from .of_below (below_drewN (Below.refl _ _) _) _)
  have HB1 := Lib.hid (show B ≤ (w.drewN nq).heap.size from HB.out)
  clear H HB RO c4 c5
  generalize w.drewN nq = w1 at *
  have K2 := Lib.hid ((Bk.new w1 82 Sl.fresh.cs).alloc (.cells #[.pointer (some ⟨w1.heap.size, 0, none⟩)] 83))
  have OW := Lib.hid ((RO1.out.alloc (.cells Sl.fresh.cs 82)).alloc (.cells #[.pointer (some ⟨w1.heap.size, 0, none⟩)] 83))
  have BX2 := Lib.hid ((BX1.out.alloc (.cells Sl.fresh.cs 82)).alloc (.cells #[.pointer (some ⟨w1.heap.size, 0, none⟩)] 83))
  have SZ2 := Lib.hid (show ((w1.alloc (.cells Sl.fresh.cs 82)).alloc (.cells #[.pointer (some ⟨w1.heap.size, 0, none⟩)] 83)).heap.size = w1.heap.size + 2 by simp)
  have KP2 := Lib.hid (Bk.new2 w1 (.cells Sl.fresh.cs 82) 83 #[.pointer (some ⟨w1.heap.size, 0, none⟩)])
  go_wp2_with (at_builtin; refine wpList_append_lies _ rfl _ _ 73 rfl B 83 i0 (.pointer none) 1 8 Tryz.underlying73 hi hz0 hz1 hz2 rfl (by decide) (.slice sa n sc) n (ptrs J.bs) rfl OW.out ⟨w1.heap.size + 1, 0, none⟩ 1 1 [.pointer (some ⟨w1.heap.size, 0, none⟩)] rfl rfl ?qa ?qb (by omega) ?qc ?qd ?qe _ rfl ?_)
  case qa =>
    intro j u hu
    rw [Addr.add_lit, Nat.zero_add]
    exact (KP2.out.cell j).trans (by simpa using hu)
  case qb => simp [Value.oneCell']
  case qc => have := N2.out; unfold maxLen; omega
  case qd => have := N2.out; omega
  case qe => exact Nat.le_trans HB1.out (Nat.le_trans (Nat.le_add_right _ 2) (Nat.le_of_eq SZ2.out.symm))
  intro g' cap w2 hown hgrow hlies hlt
  have GS := Lib.hid (show ∀ k cs, Bk w1 k 82 cs → Bk w2 k 82 cs from fun k cs hk =>
    ((hk.alloc _).alloc _).grown hgrow (by
      intro e
      obtain ⟨_, _, c, hc⟩ := owns_block OW.out e.symm
      exact Bk.ne_ ((hk.alloc _).alloc _) hc (by decide) rfl))
  have KF := Lib.hid (K2.out.grown hgrow (by
      intro e
      obtain ⟨_, _, c, hc⟩ := owns_block OW.out e.symm
      exact Bk.ne_ K2.out hc (by decide) rfl))
  have BX := Lib.hid (BX2.out.grown hgrow (by
      intro e
      obtain ⟨_, _, c, hc⟩ := owns_block OW.out e.symm
      exact Bk.ne_ BX2.out hc (by decide) rfl))
  have OU := Lib.hid (show Out w1 w2 (SF B w1) from by
    have h1 : Out w1 ((w1.alloc (.cells Sl.fresh.cs 82)).alloc (.cells #[.pointer (some ⟨w1.heap.size, 0, none⟩)] 83)) (SF B w1) := ((Out.refl w1 _).alloc _).alloc _
    refine sf_then h1 (.of_grown hgrow fun k hk hlt => ?_)
    obtain ⟨a1, _, c, hc⟩ := owns_block OW.out hk
    exact ⟨a1, _, c, hc, .inr (.inr rfl)⟩)
  have OWN := Lib.hid (show w2.ownsRow B 83 1 (.slice (some ⟨g', 0, none⟩) (n + 1) cap) (n + 1) (ptrs (J.bs ++ [w1.heap.size])) from by rw [ptrs_app]; exact hown)
  have y5 : w2.cell? ⟨J.g, 5, none⟩ = some J.sv := BX.out.cell 5
  have z5 := BX.out.fz 5
  have x5 : (w2.setCell ⟨J.g, 5, none⟩ (.slice (some ⟨g', 0, none⟩) (n + 1) cap)).cell? ⟨J.g, 5, none⟩ = some (.slice (some ⟨g', 0, none⟩) (n + 1) cap) := (BX.out.set 5 _).cell 5
  have n1I : (0 : Int) ≤ (n : Int) := by omega
  clear hgrow hlies hlt hown K2 BX2 KP2 OW d5
  go_wp2
  (try simp only [Exit.noGoto])
  refine bodyPost_ret (v := .tuple #[.int .i64 (n : Int), .bool true]) (by simp [results, Tryz.results28, go_sem]) rfl ?_
  refine ⟨n, true, { J with sv := .slice (some ⟨g', 0, none⟩) (n + 1) cap, bs := J.bs ++ [w1.heap.size] }, { P with ss := P.ss ++ [Sl.fresh] }, ?_, ?_, ?_, rfl, rfl, rfl, ?_⟩
  · first | rfl | (simp; try go_num)
  · have hfar : ∀ k t cs, Bk w2 k t cs → t ≠ 75 → Bk (w2.setCell ⟨J.g, 5, none⟩ (.slice (some ⟨g', 0, none⟩) (n + 1) cap)) k t cs := fun k t cs hk ht => hk.far (Bk.ne_ hk BX.out ht) _
    refine H1.out.more HF.out (hfar _ _ _ KF.out (by decide)) (Nat.le_refl _) HB1.out (BX.out.set 5 _) ?_ (fun k cs hk => hfar _ _ _ (GS.out k cs hk) (by decide))
    rw [← HN.out]
    exact own_far (p := ⟨J.g, 5, none⟩) OWN.out BX.out (by decide) _
  · have hh := H1.out
    refine { base := rfl, pages := rfl, frames := rfl, lt := .inl (by rw [HN.out]; simp), hl := (fun e => by cases e), same := fun j hj => ⟨by simp; omega, ?_⟩, new := .inr ⟨by simp, rfl, HN.out, ?_⟩, free := fun _ hi => ?_, full := (fun e => by cases e), ok' := ?_ }
    · show likeS ((P.ss ++ [Sl.fresh])[j]'(by simp; omega)) (P.ss[j])
      rw [List.getElem_append_left hj]; exact .refl _
    · show (P.ss ++ [Sl.fresh])[P.ss.length]? = _
      simp
    · show ((P.ss ++ [Sl.fresh])[n]'hi).di = false
      have e := HN.out
      subst e
      rw [List.getElem_append_right (Nat.le_refl _)]
      simp [Sl.fresh]
    · exact (hh.more (b := w1.heap.size) (v := .slice (some ⟨g', 0, none⟩) (n + 1) cap) (w' := w2.setCell ⟨J.g, 5, none⟩ (.slice (some ⟨g', 0, none⟩) (n + 1) cap)) HF.out (KF.out.far (Bk.ne_ KF.out BX.out (by decide)) _) (Nat.le_refl _) HB1.out (BX.out.set 5 _) (by rw [← HN.out]; exact own_far (p := ⟨J.g, 5, none⟩) OWN.out BX.out (by decide) _) (fun k cs hk => (GS.out k cs hk).far (Bk.ne_ (GS.out k cs hk) BX.out (by decide)) _)).ok
  · exact sf_then O1.out (sf_then OU.out (sf_grown (only_set ⟨rfl, rfl, rfl, Nat.le_refl _, fun _ _ _ => rfl⟩ 5 _) BX.out (.inl rfl) H1.out.bg))
/-- What the hand has gone over: none is used; the second time round all are dirty. -/
def Vis (ss : List Sl) (n h0 m : Nat) : Prop :=
  (∀ k, k < m → k < n → ∀ s, ss[(h0 + k) % n]? = some s → s.us = false) ∧ (∀ k, n + k < m → k < n → ∀ s, ss[(h0 + k) % n]? = some s → s.di = true)
theorem Vis.none (ss : List Sl) (n h0 : Nat) : Vis ss n h0 0 := ⟨fun k h => absurd h (Nat.not_lt_zero k), fun k h => absurd h (Nat.not_lt_zero _)⟩
theorem Vis.step {ss : List Sl} {n h0 m i : Nat} (h : Vis ss n h0 m) (n0 : 0 < n) (hi : i = (h0 + m) % n) (hlt : i < ss.length) (hret : (ss[i]).di = true ∨ (ss[i]).us = true) : Vis (ss.set i { ss[i] with us := false }) n h0 (m + 1) := by
  constructor
  · intro k hk hkn s hs
    rw [List.getElem?_set] at hs
    by_cases e : i = (h0 + k) % n
    · rw [if_pos e, if_pos hlt] at hs
      injection hs with hs
      subst hs
      rfl
    · rw [if_neg e] at hs
      have : k ≠ m := fun e2 => e (by rw [e2]; exact hi)
      exact h.1 k (by omega) hkn s hs
  · intro k hk hkn s hs
    rw [List.getElem?_set] at hs
    by_cases e2 : n + k = m
    · have e : i = (h0 + k) % n := by
        rw [hi, ← e2, show h0 + (n + k) = (h0 + k) + n by omega, Nat.add_mod_right]
      rw [if_pos e, if_pos hlt] at hs
      injection hs with hs
      subst hs
      show (ss[i]).di = true
      rcases hret with hr | hr
      · exact hr
      · have := h.1 k (by omega) hkn (ss[i]) (by rw [← e]; exact List.getElem?_eq_getElem hlt)
        rw [this] at hr; cases hr
    · by_cases e : i = (h0 + k) % n
      · rw [if_pos e, if_pos hlt] at hs
        injection hs with hs
        subst hs
        exact h.2 k (by omega) hkn (ss[i]) (by rw [← e]; exact List.getElem?_eq_getElem hlt)
      · rw [if_neg e] at hs
        exact h.2 k (by omega) hkn s hs
theorem Vis.all {ss : List Sl} {n h0 : Nat} (h : Vis ss n h0 (2 * n)) (hl : ss.length = n) (h0n : h0 < n) : ∀ j (hj : j < ss.length), (ss[j]).di = true := fun j hj => by
  have hjn : j < n := by omega
  by_cases e : h0 ≤ j
  · refine h.2 (j - h0) (by omega) (by omega) _ ?_
    rw [show h0 + (j - h0) = j by omega, Nat.mod_eq_of_lt hjn]
    exact List.getElem?_eq_getElem hj
  · refine h.2 (j + n - h0) (by omega) (by omega) _ ?_
    rw [show h0 + (j + n - h0) = j + n by omega, Nat.add_mod_right, Nat.mod_eq_of_lt hjn]
    exact List.getElem?_eq_getElem hj
/-- The slots are those, but for what was used. -/
def Lk (P Q : Po) : Prop := Q.base = P.base ∧ Q.pages = P.pages ∧ Q.frames = P.frames ∧ Q.ss.length = P.ss.length ∧ ∀ j (hj : j < P.ss.length), ∃ (hj' : j < Q.ss.length), likeS (Q.ss[j]) (P.ss[j])
theorem Lk.refl (P : Po) : Lk P P := ⟨rfl, rfl, rfl, rfl, fun j hj => ⟨hj, .refl _⟩⟩
theorem Lk.set {P Q : Po} (h : Lk P Q) (hd i : Nat) (hi : i < Q.ss.length) (u : Bool) : Lk P { Q with hand := hd, ss := Q.ss.set i { Q.ss[i] with us := u } } := by
  refine ⟨h.1, h.2.1, h.2.2.1, by show (Q.ss.set i _).length = _; rw [List.length_set]; exact h.2.2.2.1, fun j hj => ?_⟩
  obtain ⟨hj', hl⟩ := h.2.2.2.2 j hj
  refine ⟨by show j < (Q.ss.set i _).length; rw [List.length_set]; exact hj', ?_⟩
  show likeS ((Q.ss.set i { Q.ss[i] with us := u })[j]'(by rw [List.length_set]; exact hj')) _
  by_cases e : j = i
  · subst e
    rw [List.getElem_set_self]
    exact ⟨hl.1, hl.2.1, hl.2.2.1, hl.2.2.2⟩
  · rw [List.getElem_set_ne (Ne.symm e)]
    exact hl
set_option maxRecDepth 100000 in
set_option maxHeartbeats 16000000 in
theorem spare_full {w : World} {B : Nat} {J : Pd} {P : Po} (h : Pq w B J P) (hf : ¬ P.ss.length < P.frames) :
    Calls Tryz.prog 28 #[J.ptr] w (SpPost w B J P) := by
  obtain ⟨sa, sc, hsv⟩ := h.slice
  obtain ⟨-, -, -, -, c4, c5, -⟩ := h.cells
  obtain ⟨n, hn⟩ : ∃ n, n = P.ss.length := ⟨_, rfl⟩
  rw [hsv, ← hn] at c5
  have SV := Lib.hid (show J.sv = .slice sa n sc by rw [hsv, ← hn])
  have n256 : n ≤ 256 := by rw [hn]; exact h.few
  have hf1 := h.ok.f1; have hf2 := h.ok.len
  have n4 : 4 ≤ n := by omega
  have hfI : ¬ (n : Int) < (P.frames : Int) := by rw [hn]; omega
  have hfd : decide ((n : Int) < (P.frames : Int)) = false := decide_eq_false hfI
  have hfn : ¬ n < P.frames := by rw [hn]; exact hf
  have hfnd : decide (n < P.frames) = false := decide_eq_false hfn
  have FN := Lib.hid (show n = P.frames by omega)
  have NL0 := Lib.hid hn
  have H := Lib.hid h
  clear h hn hsv hf hf1 hf2
  unfold Pd.ptr
  go_enter Tryz.func28, Tryz.ntmps28
  go_wp2
  refine wp_scope_jumps 0 (fun a' w' => ∃ (P1 : Po) (t : Nat), a' = { tmps := #[.pointer (some ⟨J.g, 0, none⟩), a'.tmps.getD 1 undef, .int .i64 0, .bool false, .int .i64 (t : Int), a'.tmps.getD 5 undef, a'.tmps.getD 6 undef, a'.tmps.getD 7 undef, a'.tmps.getD 8 undef, a'.tmps.getD 9 undef, a'.tmps.getD 10 undef, a'.tmps.getD 11 undef, a'.tmps.getD 12 undef, a'.tmps.getD 13 undef, a'.tmps.getD 14 undef, a'.tmps.getD 15 undef, a'.tmps.getD 16 undef, a'.tmps.getD 17 undef, a'.tmps.getD 18 undef, a'.tmps.getD 19 undef, a'.tmps.getD 20 undef, a'.tmps.getD 21 undef, a'.tmps.getD 22 undef, a'.tmps.getD 23 undef, a'.tmps.getD 24 undef, a'.tmps.getD 25 undef, a'.tmps.getD 26 undef, a'.tmps.getD 27 undef, a'.tmps.getD 28 undef, a'.tmps.getD 29 undef, a'.tmps.getD 30 undef, a'.tmps.getD 31 undef, a'.tmps.getD 32 undef, a'.tmps.getD 33 undef, a'.tmps.getD 34 undef, a'.tmps.getD 35 undef, a'.tmps.getD 36 undef, a'.tmps.getD 37 undef, a'.tmps.getD 38 undef, a'.tmps.getD 39 undef, a'.tmps.getD 40 undef, a'.tmps.getD 41 undef, a'.tmps.getD 42 undef, a'.tmps.getD 43 undef, a'.tmps.getD 44 undef, a'.tmps.getD 45 undef, a'.tmps.getD 46 undef, a'.tmps.getD 47 undef, a'.tmps.getD 48 undef, a'.tmps.getD 49 undef, a'.tmps.getD 50 undef, a'.tmps.getD 51 undef, a'.tmps.getD 52 undef, a'.tmps.getD 53 undef, a'.tmps.getD 54 undef, a'.tmps.getD 55 undef, a'.tmps.getD 56 undef, a'.tmps.getD 57 undef, a'.tmps.getD 58 undef, a'.tmps.getD 59 undef, a'.tmps.getD 60 undef, a'.tmps.getD 61 undef, a'.tmps.getD 62 undef, a'.tmps.getD 63 undef, a'.tmps.getD 64 undef, a'.tmps.getD 65 undef, a'.tmps.getD 66 undef, a'.tmps.getD 67 undef, a'.tmps.getD 68 undef, a'.tmps.getD 69 undef, a'.tmps.getD 70 undef, a'.tmps.getD 71 undef, a'.tmps.getD 72 undef, a'.tmps.getD 73 undef, a'.tmps.getD 74 undef, a'.tmps.getD 75 undef, a'.tmps.getD 76 undef, a'.tmps.getD 77 undef, a'.tmps.getD 78 undef, a'.tmps.getD 79 undef, a'.tmps.getD 80 undef, a'.tmps.getD 81 undef], defers := [] } ∧ 0 < t ∧ t ≤ 2 * n ∧ Pq w' B J P1 ∧ n = P1.ss.length ∧ Lk P P1 ∧ Out w w' (SF B w) ∧ Vis P1.ss n P.hand (2 * n - t) ∧ P1.hand = (P.hand + (2 * n - t)) % n) (fun a' _ => match a'.tmps.getD 4 undef with | .int _ x => x.toNat | _ => 0) rfl ?_ ?_
  · go_wp2_with fail
    go_quiet (fail)
    have SQ := Lib.hid (H.out.drewN nq)
    have OU := Lib.hid (show Out w (w.drewN nq) (SF B w) from .of_below (below_drewN (Below.refl _ _) _) _)
    have d5 : (w.drewN nq).cell? ⟨J.g, 5, none⟩ = some (.slice sa n sc) := c5
    clear H c4 c5
    generalize w.drewN nq = w1 at *
    have NL := Lib.hid NL0.out
    have LEN := Lib.hid NL0.out
    have FUL := Lib.hid (show 4 ≤ P.ss.length by rw [← NL0.out]; exact n4)
    have LK := Lib.hid (Lk.refl P)
    have VIS := Lib.hid (Vis.none P.ss n P.hand)
    have H00 := Lib.hid (show P.hand < n from by have := SQ.out.ok.hand; have := FUL.out; have := NL.out; omega)
    have HDM := Lib.hid (show P.hand = (P.hand + 0) % n from by rw [Nat.add_zero, Nat.mod_eq_of_lt H00.out])
    have t9 : n ≤ 256 := n256
    go_wp2
    refine wp_label ?_
    simp only [Exit.then]
    apply_assumption
    clear d5
    have hH := SQ.out
    have hl := LEN.out
    have hhd : P.hand < P.ss.length := by have := hH.ok.hand; have := FUL.out; omega
    obtain ⟨i, hi⟩ : ∃ i, i = P.hand := ⟨_, rfl⟩
    have HI := Lib.hid hi
    have hib : i < n := by rw [hi, NL.out]; exact hhd
    have hjb : i < J.bs.length := by rw [hH.bl, ← NL.out]; exact hib
    have his : i < P.ss.length := by rw [← NL.out]; exact hib
    obtain ⟨g', c', e1, -, -, hc'⟩ := hH.at_ i hjb
    rw [SV.out, ← NL.out] at e1
    obtain ⟨rfl, rfl⟩ : sa = some ⟨g', 0, none⟩ ∧ sc = c' := by simpa using e1
    obtain ⟨-, -, -, -, -, y5, y6⟩ := hH.cells
    rw [SV.out] at y5
    rw [← hi] at y6
    have f6 := hH.box.fz 6
    obtain ⟨bi, hbi⟩ : ∃ bi, bi = J.bs[i] := ⟨_, rfl⟩
    obtain ⟨s, hs⟩ : ∃ s, s = P.ss[i] := ⟨_, rfl⟩
    have KS := Lib.hid (hH.sl i hjb his)
    rw [← hbi] at hc'
    have nn0 : ¬ (n : Int) = 0 := by omega
    have nn0b : ((n : Int) == 0) = false := by simp; omega
    have nn1 : ¬ n = 0 := by omega
    have nI : (i : Int) < (n : Int) := by omega
    have tm : ((i : Int) + 1).tmod (n : Int) = (((i + 1) % n : Nat) : Int) := by
      rw [Int.tmod_eq_emod_of_nonneg (by omega), Int.natCast_emod, Int.natCast_add]; rfl
    have wm : wrap64 (((i + 1) % n : Nat) : Int) = (((i + 1) % n : Nat) : Int) := by
      have h1 := Nat.mod_lt (i + 1) (show 0 < n by omega)
      generalize (i + 1) % n = r at h1
      unfold wrap64; omega
    have hm : (i + 1) % n < n := Nat.mod_lt _ (by omega)
    have SH := Lib.hid (hH.setHand ((i + 1) % n) (by rw [← NL.out]; exact hm))
    have KH := Lib.hid (hH.box)
    rw [← hbi, ← hs] at KS
    have NG := Lib.hid (hH.ne_slot (List.getElem_mem hjb))
    rw [← hbi] at NG
    have KS2 := Lib.hid (KS.out.far (p := ⟨J.g, 6, none⟩) (Ne.symm NG.out) (.int .i64 (((i + 1) % n : Nat) : Int)))
    obtain ⟨-, -, s18, s19⟩ := sl_cells KS2.out
    have g19 := KS2.out.fz 19
    have HBI := Lib.hid hbi; have HS := Lib.hid hs
    obtain ⟨hd, hhde⟩ : ∃ hd, hd = (i + 1) % n := ⟨_, rfl⟩
    rw [← hhde] at tm wm SH KS2 s18 s19 g19 hm
    have HD := Lib.hid hhde
    have HM := Lib.hid hm
    clear e1 hi hbi hs hhd hH hl hhde hm KS NG
    rcases hdi : s.di with _ | _
    · rcases hus : s.us with _ | _
      · rw [hdi] at s18
        rw [hus] at s19
        have hdi' := Lib.hid hdi
        clear hdi hus
        go_wp2
        (try simp only [Exit.jump])
        refine bodyPost_ret (v := .tuple #[.int .i64 (i : Int), .bool true]) (by simp [results, Tryz.results28, go_sem]) rfl ?_
        refine ⟨i, true, J, { P with hand := hd }, rfl, SH.out, ?_, rfl, rfl, rfl, ?_⟩
        · have hl := LK.out
          refine { base := hl.1, pages := hl.2.1, frames := hl.2.2.1, lt := .inl (by show i < P.ss.length; rw [← NL.out]; exact hib), hl := (fun e => by cases e), same := hl.2.2.2.2, new := .inl hl.2.2.2.1, free := fun _ hi2 => ?_, full := (fun e => by cases e), ok' := SH.out.ok }
          have : (P.ss[i]'hi2) = s := HS.out.symm
          show (P.ss[i]'hi2).di = false
          rw [this]; exact hdi'.out
        · exact sf_then OU.out (sf_grown (only_set ⟨rfl, rfl, rfl, Nat.le_refl _, fun _ _ _ => rfl⟩ 6 _) KH.out (.inl rfl) SH.out.bg)
      · rw [hdi] at s18
        rw [hus] at s19
        have HRT := Lib.hid (show s.di = true ∨ s.us = true from .inr hus)
        clear hdi hus
        have SU := Lib.hid (SH.out.used i (by show i < P.ss.length; rw [← NL.out]; exact hib) (by rw [SH.out.bl]; show i < P.ss.length; rw [← NL.out]; exact hib) false)
        have OU2 := Lib.hid (show Out w ((w1.setCell ⟨J.g, 6, none⟩ (.int .i64 (hd : Int))).setCell ⟨bi, 19, none⟩ (.bool false)) (SF B w) from
          sf_then OU.out (sf_then (sf_grown (only_set ⟨rfl, rfl, rfl, Nat.le_refl _, fun _ _ _ => rfl⟩ 6 _) KH.out (.inl rfl) SH.out.bg) (sf_grown (only_set ⟨rfl, rfl, rfl, Nat.le_refl _, fun _ _ _ => rfl⟩ 19 _) KS2.out (.inr (.inl rfl)) (by rw [HBI.out]; exact SH.out.bb _ (List.getElem_mem _)))))
        have LK2 := Lib.hid (show Lk P { P with hand := hd, ss := P.ss.set i { (P.ss[i]'(by rw [← NL.out]; exact hib)) with us := false } } from LK.out.set hd i (by rw [← NL.out]; exact hib) false)
        have VS := Lib.hid (VIS.out.step (i := i) (by omega) (by rw [HI.out]; exact HDM.out) (by rw [← NL.out]; exact hib) (by rw [show P.ss[i]'(by rw [← NL.out]; exact hib) = s from HS.out.symm]; exact HRT.out))
        have HDN := Lib.hid (show hd = (P.hand + (0 + 1)) % n from by rw [HD.out, HI.out, HDM.out, Nat.mod_add_mod])
        rw [← HBI.out] at SU
        obtain ⟨P2, hP2⟩ : ∃ P2 : Po, P2 = { P with hand := hd, ss := P.ss.set i { (P.ss[i]'(by rw [← NL.out]; exact hib)) with us := false } } := ⟨_, rfl⟩
        have VS2 := Lib.hid (show Vis P2.ss n P.hand (0 + 1) by rw [hP2]; exact VS.out)
        have NL2 := Lib.hid (show n = P2.ss.length by rw [hP2]; show n = (P.ss.set i _).length; rw [List.length_set]; exact NL.out)
        have HD2 := Lib.hid (show P2.hand = hd by rw [hP2])
        have SU2 := Lib.hid (show Pq ((w1.setCell ⟨J.g, 6, none⟩ (.int .i64 (hd : Int))).setCell ⟨bi, 19, none⟩ (.bool false)) B J P2 by rw [hP2]; exact SU.out)
        rw [← hP2] at LK2
        clear SU SH KH KS2 hP2 VS
        have hlI : (0 : Int) < 2 * (n : Int) - 1 := by omega
        go_wp2
        go_step3
        refine ⟨rfl, ⟨P2, 2 * n - 1, ?_, by omega, by omega, SU2.out, NL2.out, LK2.out, OU2.out, by rw [show 2 * n - (2 * n - 1) = 0 + 1 by omega]; exact VS2.out, by rw [show 2 * n - (2 * n - 1) = 0 + 1 by omega, HD2.out]; exact HDN.out⟩⟩
        rw [show ((2 * n - 1 : Nat) : Int) = 2 * (n : Int) - 1 by omega]
        rfl
    · rw [hdi] at s18
      have HRT := Lib.hid (show s.di = true ∨ s.us = true from .inl hdi)
      clear hdi
      have SU := Lib.hid (SH.out.used i (by show i < P.ss.length; rw [← NL.out]; exact hib) (by rw [SH.out.bl]; show i < P.ss.length; rw [← NL.out]; exact hib) false)
      have OU2 := Lib.hid (show Out w ((w1.setCell ⟨J.g, 6, none⟩ (.int .i64 (hd : Int))).setCell ⟨bi, 19, none⟩ (.bool false)) (SF B w) from
        sf_then OU.out (sf_then (sf_grown (only_set ⟨rfl, rfl, rfl, Nat.le_refl _, fun _ _ _ => rfl⟩ 6 _) KH.out (.inl rfl) SH.out.bg) (sf_grown (only_set ⟨rfl, rfl, rfl, Nat.le_refl _, fun _ _ _ => rfl⟩ 19 _) KS2.out (.inr (.inl rfl)) (by rw [HBI.out]; exact SH.out.bb _ (List.getElem_mem _)))))
      have LK2 := Lib.hid (show Lk P { P with hand := hd, ss := P.ss.set i { (P.ss[i]'(by rw [← NL.out]; exact hib)) with us := false } } from LK.out.set hd i (by rw [← NL.out]; exact hib) false)
      have VS := Lib.hid (VIS.out.step (i := i) (by omega) (by rw [HI.out]; exact HDM.out) (by rw [← NL.out]; exact hib) (by rw [show P.ss[i]'(by rw [← NL.out]; exact hib) = s from HS.out.symm]; exact HRT.out))
      have HDN := Lib.hid (show hd = (P.hand + (0 + 1)) % n from by rw [HD.out, HI.out, HDM.out, Nat.mod_add_mod])
      rw [← HBI.out] at SU
      obtain ⟨P2, hP2⟩ : ∃ P2 : Po, P2 = { P with hand := hd, ss := P.ss.set i { (P.ss[i]'(by rw [← NL.out]; exact hib)) with us := false } } := ⟨_, rfl⟩
      have VS2 := Lib.hid (show Vis P2.ss n P.hand (0 + 1) by rw [hP2]; exact VS.out)
      have NL2 := Lib.hid (show n = P2.ss.length by rw [hP2]; show n = (P.ss.set i _).length; rw [List.length_set]; exact NL.out)
      have HD2 := Lib.hid (show P2.hand = hd by rw [hP2])
      have SU2 := Lib.hid (show Pq ((w1.setCell ⟨J.g, 6, none⟩ (.int .i64 (hd : Int))).setCell ⟨bi, 19, none⟩ (.bool false)) B J P2 by rw [hP2]; exact SU.out)
      rw [← hP2] at LK2
      clear SU SH KH KS2 hP2 VS
      have hlI : (0 : Int) < 2 * (n : Int) - 1 := by omega
      go_wp2
      go_step3
      refine ⟨rfl, ⟨P2, 2 * n - 1, ?_, by omega, by omega, SU2.out, NL2.out, LK2.out, OU2.out, by rw [show 2 * n - (2 * n - 1) = 0 + 1 by omega]; exact VS2.out, by rw [show 2 * n - (2 * n - 1) = 0 + 1 by omega, HD2.out]; exact HDN.out⟩⟩
      rw [show ((2 * n - 1 : Nat) : Int) = 2 * (n : Int) - 1 by omega]
      rfl
  · rintro a' wr ⟨P1, t, ha, t0, t2, hq, hnl, hlk, hou, hvis, hhm⟩
    obtain ⟨u, hu⟩ : ∃ u : Nat → Value, ∀ i, a'.tmps.getD i undef = u i := ⟨fun i => a'.tmps.getD i undef, fun _ => rfl⟩
    simp only [hu] at ha
    clear hu
    subst ha
    have SQ := Lib.hid hq; have NL := Lib.hid hnl; have LEN := Lib.hid hnl; have LK := Lib.hid hlk; have OU := Lib.hid hou; have VIS := Lib.hid hvis; have HDM := Lib.hid hhm
    have FUL := Lib.hid (show 4 ≤ P1.ss.length by rw [← hnl]; exact n4)
    have t9 : t ≤ 1000 := by omega
    have H00 := Lib.hid (show P.hand < n from by have := H.out.ok.hand; have := NL0.out; omega)
    clear hq hnl hlk hou hvis hhm H c4 c5
    have hH := SQ.out
    have hl := LEN.out
    have hhd : P1.hand < P1.ss.length := by have := hH.ok.hand; have := FUL.out; omega
    obtain ⟨i, hi⟩ : ∃ i, i = P1.hand := ⟨_, rfl⟩
    have HI := Lib.hid hi
    have hib : i < n := by rw [hi, NL.out]; exact hhd
    have hjb : i < J.bs.length := by rw [hH.bl, ← NL.out]; exact hib
    have his : i < P1.ss.length := by rw [← NL.out]; exact hib
    obtain ⟨g', c', e1, -, -, hc'⟩ := hH.at_ i hjb
    rw [SV.out, ← NL.out] at e1
    obtain ⟨rfl, rfl⟩ : sa = some ⟨g', 0, none⟩ ∧ sc = c' := by simpa using e1
    obtain ⟨-, -, -, -, -, y5, y6⟩ := hH.cells
    rw [SV.out] at y5
    rw [← hi] at y6
    have f6 := hH.box.fz 6
    obtain ⟨bi, hbi⟩ : ∃ bi, bi = J.bs[i] := ⟨_, rfl⟩
    obtain ⟨s, hs⟩ : ∃ s, s = P1.ss[i] := ⟨_, rfl⟩
    have KS := Lib.hid (hH.sl i hjb his)
    rw [← hbi] at hc'
    have nn0 : ¬ (n : Int) = 0 := by omega
    have nn0b : ((n : Int) == 0) = false := by simp; omega
    have nn1 : ¬ n = 0 := by omega
    have nI : (i : Int) < (n : Int) := by omega
    have tm : ((i : Int) + 1).tmod (n : Int) = (((i + 1) % n : Nat) : Int) := by
      rw [Int.tmod_eq_emod_of_nonneg (by omega), Int.natCast_emod, Int.natCast_add]; rfl
    have wm : wrap64 (((i + 1) % n : Nat) : Int) = (((i + 1) % n : Nat) : Int) := by
      have h1 := Nat.mod_lt (i + 1) (show 0 < n by omega)
      generalize (i + 1) % n = r at h1
      unfold wrap64; omega
    have hm : (i + 1) % n < n := Nat.mod_lt _ (by omega)
    have SH := Lib.hid (hH.setHand ((i + 1) % n) (by rw [← NL.out]; exact hm))
    have KH := Lib.hid (hH.box)
    rw [← hbi, ← hs] at KS
    have NG := Lib.hid (hH.ne_slot (List.getElem_mem hjb))
    rw [← hbi] at NG
    have KS2 := Lib.hid (KS.out.far (p := ⟨J.g, 6, none⟩) (Ne.symm NG.out) (.int .i64 (((i + 1) % n : Nat) : Int)))
    obtain ⟨-, -, s18, s19⟩ := sl_cells KS2.out
    have g19 := KS2.out.fz 19
    have HBI := Lib.hid hbi; have HS := Lib.hid hs
    obtain ⟨hd, hhde⟩ : ∃ hd, hd = (i + 1) % n := ⟨_, rfl⟩
    rw [← hhde] at tm wm SH KS2 s18 s19 g19 hm
    have HD := Lib.hid hhde
    have HM := Lib.hid hm
    clear e1 hi hbi hs hhd hH hl hhde hm KS NG
    rcases hdi : s.di with _ | _
    · rcases hus : s.us with _ | _
      · rw [hdi] at s18
        rw [hus] at s19
        have hdi' := Lib.hid hdi
        clear hdi hus
        go_wp2
        (try simp only [Exit.jump])
        refine bodyPost_ret (v := .tuple #[.int .i64 (i : Int), .bool true]) (by simp [results, Tryz.results28, go_sem]) rfl ?_
        refine ⟨i, true, J, { P1 with hand := hd }, rfl, SH.out, ?_, rfl, rfl, rfl, ?_⟩
        · have hl := LK.out
          refine { base := hl.1, pages := hl.2.1, frames := hl.2.2.1, lt := .inl (by show i < P1.ss.length; rw [← NL.out]; exact hib), hl := (fun e => by cases e), same := hl.2.2.2.2, new := .inl hl.2.2.2.1, free := fun _ hi2 => ?_, full := (fun e => by cases e), ok' := SH.out.ok }
          have : (P1.ss[i]'hi2) = s := HS.out.symm
          show (P1.ss[i]'hi2).di = false
          rw [this]; exact hdi'.out
        · exact sf_then OU.out (sf_grown (only_set ⟨rfl, rfl, rfl, Nat.le_refl _, fun _ _ _ => rfl⟩ 6 _) KH.out (.inl rfl) SH.out.bg)
      · rw [hdi] at s18
        rw [hus] at s19
        have HRT := Lib.hid (show s.di = true ∨ s.us = true from .inr hus)
        clear hdi hus
        have SU := Lib.hid (SH.out.used i (by show i < P1.ss.length; rw [← NL.out]; exact hib) (by rw [SH.out.bl]; show i < P1.ss.length; rw [← NL.out]; exact hib) false)
        have OU2 := Lib.hid (show Out w ((wr.setCell ⟨J.g, 6, none⟩ (.int .i64 (hd : Int))).setCell ⟨bi, 19, none⟩ (.bool false)) (SF B w) from
          sf_then OU.out (sf_then (sf_grown (only_set ⟨rfl, rfl, rfl, Nat.le_refl _, fun _ _ _ => rfl⟩ 6 _) KH.out (.inl rfl) SH.out.bg) (sf_grown (only_set ⟨rfl, rfl, rfl, Nat.le_refl _, fun _ _ _ => rfl⟩ 19 _) KS2.out (.inr (.inl rfl)) (by rw [HBI.out]; exact SH.out.bb _ (List.getElem_mem _)))))
        have LK2 := Lib.hid (show Lk P { P1 with hand := hd, ss := P1.ss.set i { (P1.ss[i]'(by rw [← NL.out]; exact hib)) with us := false } } from LK.out.set hd i (by rw [← NL.out]; exact hib) false)
        have VS := Lib.hid (VIS.out.step (i := i) (by omega) (by rw [HI.out]; exact HDM.out) (by rw [← NL.out]; exact hib) (by rw [show P1.ss[i]'(by rw [← NL.out]; exact hib) = s from HS.out.symm]; exact HRT.out))
        have HDN := Lib.hid (show hd = (P.hand + (2 * n - t + 1)) % n from by rw [HD.out, HI.out, HDM.out, Nat.mod_add_mod, Nat.add_assoc])
        rw [← HBI.out] at SU
        obtain ⟨P2, hP2⟩ : ∃ P2 : Po, P2 = { P1 with hand := hd, ss := P1.ss.set i { (P1.ss[i]'(by rw [← NL.out]; exact hib)) with us := false } } := ⟨_, rfl⟩
        have VS2 := Lib.hid (show Vis P2.ss n P.hand (2 * n - t + 1) by rw [hP2]; exact VS.out)
        have NL2 := Lib.hid (show n = P2.ss.length by rw [hP2]; show n = (P1.ss.set i _).length; rw [List.length_set]; exact NL.out)
        have HD2 := Lib.hid (show P2.hand = hd by rw [hP2])
        have SU2 := Lib.hid (show Pq ((wr.setCell ⟨J.g, 6, none⟩ (.int .i64 (hd : Int))).setCell ⟨bi, 19, none⟩ (.bool false)) B J P2 by rw [hP2]; exact SU.out)
        rw [← hP2] at LK2
        clear SU SH KH KS2 hP2 VS
        by_cases hl1 : 1 < t
        · have hlI : (0 : Int) < (t : Int) - 1 := by omega
          go_wp2
          go_step3
          refine ⟨rfl, ⟨P2, t - 1, ?_, by omega, by omega, SU2.out, NL2.out, LK2.out, OU2.out, by rw [show 2 * n - (t - 1) = 2 * n - t + 1 by omega]; exact VS2.out, by rw [show 2 * n - (t - 1) = 2 * n - t + 1 by omega, HD2.out]; exact HDN.out⟩, ?_⟩
          · rw [show ((t - 1 : Nat) : Int) = (t : Int) - 1 by omega]; rfl
          · show ((t : Int) - 1).toNat < (t : Int).toNat
            omega
        · obtain rfl : t = 1 := by omega
          go_wp2
          (try simp only [Exit.jump])
          refine bodyPost_ret (v := .tuple #[.int .i64 0, .bool false]) (by simp [results, Tryz.results28, go_sem]) rfl ?_
          refine ⟨0, false, J, P2, rfl, SU2.out, ?_, rfl, rfl, rfl, OU2.out⟩
          have hl := LK2.out
          refine { base := hl.1, pages := hl.2.1, frames := hl.2.2.1, lt := .inr rfl, hl := fun _ => ⟨by rw [← NL2.out, HD2.out]; exact HM.out, by rw [← NL2.out]; exact FN.out⟩, same := hl.2.2.2.2, new := .inl hl.2.2.2.1, free := (fun e => by cases e), full := fun _ => Vis.all (by have := VS2.out; rw [show 2 * n - 1 + 1 = 2 * n by omega] at this; exact this) NL2.out.symm H00.out, ok' := SU2.out.ok }
    · rw [hdi] at s18
      have HRT := Lib.hid (show s.di = true ∨ s.us = true from .inl hdi)
      clear hdi
      have SU := Lib.hid (SH.out.used i (by show i < P1.ss.length; rw [← NL.out]; exact hib) (by rw [SH.out.bl]; show i < P1.ss.length; rw [← NL.out]; exact hib) false)
      have OU2 := Lib.hid (show Out w ((wr.setCell ⟨J.g, 6, none⟩ (.int .i64 (hd : Int))).setCell ⟨bi, 19, none⟩ (.bool false)) (SF B w) from
        sf_then OU.out (sf_then (sf_grown (only_set ⟨rfl, rfl, rfl, Nat.le_refl _, fun _ _ _ => rfl⟩ 6 _) KH.out (.inl rfl) SH.out.bg) (sf_grown (only_set ⟨rfl, rfl, rfl, Nat.le_refl _, fun _ _ _ => rfl⟩ 19 _) KS2.out (.inr (.inl rfl)) (by rw [HBI.out]; exact SH.out.bb _ (List.getElem_mem _)))))
      have LK2 := Lib.hid (show Lk P { P1 with hand := hd, ss := P1.ss.set i { (P1.ss[i]'(by rw [← NL.out]; exact hib)) with us := false } } from LK.out.set hd i (by rw [← NL.out]; exact hib) false)
      have VS := Lib.hid (VIS.out.step (i := i) (by omega) (by rw [HI.out]; exact HDM.out) (by rw [← NL.out]; exact hib) (by rw [show P1.ss[i]'(by rw [← NL.out]; exact hib) = s from HS.out.symm]; exact HRT.out))
      have HDN := Lib.hid (show hd = (P.hand + (2 * n - t + 1)) % n from by rw [HD.out, HI.out, HDM.out, Nat.mod_add_mod, Nat.add_assoc])
      rw [← HBI.out] at SU
      obtain ⟨P2, hP2⟩ : ∃ P2 : Po, P2 = { P1 with hand := hd, ss := P1.ss.set i { (P1.ss[i]'(by rw [← NL.out]; exact hib)) with us := false } } := ⟨_, rfl⟩
      have VS2 := Lib.hid (show Vis P2.ss n P.hand (2 * n - t + 1) by rw [hP2]; exact VS.out)
      have NL2 := Lib.hid (show n = P2.ss.length by rw [hP2]; show n = (P1.ss.set i _).length; rw [List.length_set]; exact NL.out)
      have HD2 := Lib.hid (show P2.hand = hd by rw [hP2])
      have SU2 := Lib.hid (show Pq ((wr.setCell ⟨J.g, 6, none⟩ (.int .i64 (hd : Int))).setCell ⟨bi, 19, none⟩ (.bool false)) B J P2 by rw [hP2]; exact SU.out)
      rw [← hP2] at LK2
      clear SU SH KH KS2 hP2 VS
      by_cases hl1 : 1 < t
      · have hlI : (0 : Int) < (t : Int) - 1 := by omega
        go_wp2
        go_step3
        refine ⟨rfl, ⟨P2, t - 1, ?_, by omega, by omega, SU2.out, NL2.out, LK2.out, OU2.out, by rw [show 2 * n - (t - 1) = 2 * n - t + 1 by omega]; exact VS2.out, by rw [show 2 * n - (t - 1) = 2 * n - t + 1 by omega, HD2.out]; exact HDN.out⟩, ?_⟩
        · rw [show ((t - 1 : Nat) : Int) = (t : Int) - 1 by omega]; rfl
        · show ((t : Int) - 1).toNat < (t : Int).toNat
          omega
      · obtain rfl : t = 1 := by omega
        go_wp2
        (try simp only [Exit.jump])
        refine bodyPost_ret (v := .tuple #[.int .i64 0, .bool false]) (by simp [results, Tryz.results28, go_sem]) rfl ?_
        refine ⟨0, false, J, P2, rfl, SU2.out, ?_, rfl, rfl, rfl, OU2.out⟩
        have hl := LK2.out
        refine { base := hl.1, pages := hl.2.1, frames := hl.2.2.1, lt := .inr rfl, hl := fun _ => ⟨by rw [← NL2.out, HD2.out]; exact HM.out, by rw [← NL2.out]; exact FN.out⟩, same := hl.2.2.2.2, new := .inl hl.2.2.2.1, free := (fun e => by cases e), full := fun _ => Vis.all (by have := VS2.out; rw [show 2 * n - 1 + 1 = 2 * n by omega] at this; exact this) NL2.out.symm H00.out, ok' := SU2.out.ok }
theorem spare_any {w : World} {B : Nat} {J : Pd} {P : Po} (h : Pq w B J P) (hB : B ≤ w.heap.size) :
    Calls Tryz.prog 28 #[J.ptr] w (SpPost w B J P) := by
  by_cases hf : P.ss.length < P.frames
  · exact spare_more h hB hf
  · exact spare_full h hf
end Go.Proofs.YtgafajbdmegfgaaGreat
