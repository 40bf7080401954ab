/- A transaction is released: a table under way. -/
import Derived.Test.YtnpnpkaklamboaaDoorLkAskT
set_option linter.unusedVariables false
set_option linter.unusedSimpArgs false
namespace Go.Proofs.YtnpnpkaklamboaaDoor
open Go.RowKit Go.Shelf Go.Maps

theorem MpR.of_blocks {w w' : World} {P : Program} {k : TypeId} {b r n cnt : Nat} {f : Lit → Option Value} {left : Lit → Bool} (h : MpR w P k b r n f left cnt) (hb : w'.heap[b]? = w.heap[b]?) (hr : w'.heap[r]? = w.heap[r]?) : MpR w' P k b r n f left cnt := by
  obtain ⟨D, ⟨es, clock, since, seen, c0, h1, h2, h3, h4, h5, h6⟩, d⟩ := h
  exact ⟨D, ⟨es, clock, since, seen, c0, hb.trans h1, h2, h3, h4, hr.trans h5, h6⟩, d⟩
section
variable {P : Program} (w : World) {ops : Array Oper} {rest : List Oper} {o : Oper} {a : Act} {Q : Exit → Act → World → Prop}
theorem wpList_mp_drop (hg : o.guard = none) (m x : Operand) (t k : TypeId) (hop : o.op = Op.call { callee := Callee.builtin Builtin.delete, args := #[m, x], argTypes := #[t, k] })
    (e : TypeId) (K : Keyed P k) (ht : P.underlying t = some (.map k e)) (b n : Nat) (f : Lit → Option Value)
    (hm : a.eval m = .map (some b)) (h : Mp w P k b n f) (key : Value) (kl : Lit) (hx : a.eval x = key) (hkey : keyOf P k key = some kl)
    (hK : ∀ w', Mp w' P k b n (fdel f kl) → w.grownBy w' (some b) → wpList P ops Q rest (a.put o.dst (.tuple #[])) w') : wpList P ops Q (o :: rest) a w := by
  obtain ⟨D, h, d⟩ := h
  exact wpList_delete_own w hg m x t k hop e K ht anyElem b n D hm h key kl hx hkey fun w' h1 h2 => hK w' ⟨_, h1, d.del (K.key hkey)⟩ h2.grown
end
section
variable (w : World) {ops : Array Oper} {rest : List Oper} {o : Oper} {a : Act} {Q : Exit → Act → World → Prop}
set_option maxRecDepth 100000 in
theorem wpList_nm_next (hg : o.guard = none) (it : Operand) (hop : o.op = Op.next it false) (b r n : Nat) (f : Lit → Option Value) (left : Lit → Bool) (cnt : Nat)
    (hit : a.eval it = .pointer (some ⟨r, 0, none⟩)) (h : MpR w Tryd.prog 27 b r n f left cnt)
    (hDone : cnt = 0 → (∀ kl, left kl = false) → wpList Tryd.prog ops Q rest (a.put o.dst (.tuple #[.bool false])) w)
    (hMore : ∀ (x : Nm) (c : Value) (w' : World) (cnt' : Nat), x.wf → left (nk x) = true → f (nk x) = some c → MpR w' Tryd.prog 27 b r n f (fun z => left z && !z.sameKey (nk x)) cnt' → cnt' < cnt →
      w.grownBy w' (some r) → w'.heap.size = w.heap.size → (Instr.entry (.pointer (some ⟨r, 0, none⟩))).run Tryd.prog w' = .ok (.tuple #[nV x, c]) w' → wpList Tryd.prog ops Q rest (a.put o.dst (.tuple #[.bool true, nV x, c])) w') :
    wpList Tryd.prog ops Q (o :: rest) a w := by
  obtain ⟨D, h, d⟩ := h
  refine wpList_next_ranges w hg it hop 27 nm_keyed anyElem nV id (fun key kl hkey => by obtain ⟨x, _, rfl, _⟩ := nk_inv hkey; exact ⟨x, rfl⟩) (fun v y hv => ⟨v, rfl⟩) b r n D left cnt hit h hDone ?_
  intro x c kl y w' cnt' hkey hlk hv hat hrg hlt hgr hsz hen
  obtain ⟨x', hwf, e1, rfl⟩ := nk_inv hkey
  obtain rfl : x = x' := by
    obtain ⟨s, t⟩ := x
    obtain ⟨s', t'⟩ := x'
    simp at e1
    rw [e1.1, e1.2]
  obtain ⟨yd, yp⟩ := y
  have hyd : yd = .held c := anyElem_inv hv
  obtain ⟨d1, d2⟩ := d.2 _ (nk_lit x)
  have hf : f (nk x) = some c := by
    cases hf : f (nk x) with
    | none =>
      rw [hf] at d1
      have := (atKey_none d1 .nil).symm.trans (hat .nil)
      rw [hyd] at this
      cases this
    | some u =>
      have := (d2 u hf .nil).symm.trans (hat .nil)
      rw [hyd] at this
      injection this with this
      rw [this]
  exact hMore x c w' cnt' hwf hlk hf ⟨D, hrg, d⟩ hlt hgr hsz hen
end
/-- A table in the midst of a release: those names that are still to come are as they were. -/
noncomputable def Tbl.part (cp : Nat → Nat → Bool) (T : Tbl) (x : Int) (left : Lit → Bool) : Tbl :=
  open Classical in
  ⟨fun n => if left (nk n) = true then T.qs n else (T.release cp x).qs n, fun y => if y = x ∨ ∃ n, left (nk n) = false ∧ y ∈ ((T.q n).rel cp x).2 then none else T.wt y⟩
section
variable {cp : Nat → Nat → Bool} {T : Tbl} {x : Int} {left : Lit → Bool}
theorem rel_nil : (Que.nil.rel cp x) = (Que.nil, []) := by
  unfold Que.rel
  rw [if_neg]
  rintro (⟨h, hh, _⟩ | ⟨p, hp, _⟩)
  · cases hh
  · cases hp
theorem rel_none {n : Nm} (h : T.qs n = none) : ((T.q n).rel cp x).2 = [] := by rw [Tbl.q_none h, rel_nil]
theorem release_none {n : Nm} (h : T.qs n = none) : (T.release cp x).qs n = none := by
  unfold Tbl.release
  dsimp only
  rw [h]
theorem part_start (h : ∀ n, n.wf → left (nk n) = (T.qs n).isSome) (hw : ∀ n q, T.qs n = some q → n.wf) : (∀ n, (T.part cp x left).qs n = T.qs n) ∧ ∀ y, (T.part cp x left).wt y = if y = x then none else T.wt y := by
  refine ⟨fun n => ?_, fun y => ?_⟩
  · unfold Tbl.part
    dsimp only
    cases e : T.qs n with
    | none => rw [release_none e, ite_self]
    | some q => rw [if_pos (by rw [h n (hw n q e), e]; rfl)]
  · unfold Tbl.part
    dsimp only
    by_cases e : y = x
    · rw [if_pos (.inl e), if_pos e]
    · rw [if_neg e, if_neg]
      rintro (h1 | ⟨n, h1, h2⟩)
      · exact e h1
      · cases e2 : T.qs n with
        | none => rw [rel_none e2] at h2; cases h2
        | some q => rw [h n (hw n q e2), e2] at h1; cases h1
theorem part_end (h : ∀ kl, left kl = false) : (∀ n, (T.release cp x).qs n = (T.part cp x left).qs n) ∧ ∀ y, (T.release cp x).wt y = (T.part cp x left).wt y := by
  refine ⟨fun n => ?_, fun y => ?_⟩
  · unfold Tbl.part
    dsimp only
    rw [h, if_neg (by simp)]
  · unfold Tbl.part Tbl.release
    dsimp only
    have e : (y = x ∨ ∃ n, left (nk n) = false ∧ y ∈ ((T.q n).rel cp x).2) ↔ (y = x ∨ ∃ n, y ∈ ((T.q n).rel cp x).2) := or_congr Iff.rfl ⟨fun ⟨n, _, h2⟩ => ⟨n, h2⟩, fun ⟨n, h2⟩ => ⟨n, h _, h2⟩⟩
    by_cases c : (y = x ∨ ∃ n, y ∈ ((T.q n).rel cp x).2)
    · rw [if_pos c, if_pos (e.2 c)]
    · rw [if_neg c, if_neg fun h => c (e.1 h)]
theorem part_step (hw : ∀ n q, T.qs n = some q → n.wf) {n : Nm} (hn : n.wf) : (∀ k, (T.part cp x (fun z => left z && !z.sameKey (nk n))).qs k = if k = n then (T.release cp x).qs n else (T.part cp x left).qs k) ∧
    ∀ y, (T.part cp x (fun z => left z && !z.sameKey (nk n))).wt y = (if y ∈ ((T.q n).rel cp x).2 then none else (T.part cp x left).wt y) := by
  have key : ∀ k, k.wf → (left (nk k) && !(nk k).sameKey (nk n)) = if k = n then false else left (nk k) := fun k hk => by
    rw [nk_same hk hn]
    by_cases e : k = n
    · rw [if_pos e, decide_eq_true e]; simp
    · rw [if_neg e, decide_eq_false e]; simp
  refine ⟨fun k => ?_, fun y => ?_⟩
  · unfold Tbl.part
    dsimp only
    cases e : T.qs k with
    | none =>
      rw [release_none e, ite_self, ite_self]
      by_cases e2 : k = n
      · rw [if_pos e2, ← e2, release_none e]
      · rw [if_neg e2]
    | some q =>
      have hk := key k (hw k q e)
      by_cases e2 : k = n
      · rw [if_pos e2] at hk
        rw [if_neg (by rw [hk]; simp), if_pos e2, e2]
      · rw [if_neg e2] at hk
        rw [if_neg e2]
        by_cases hl : left (nk k) = true
        · rw [if_pos (by rw [hk]; exact hl), if_pos hl]
        · rw [if_neg (by rw [hk]; exact hl), if_neg hl]
  · unfold Tbl.part
    dsimp only
    by_cases e : y ∈ ((T.q n).rel cp x).2
    · rw [if_pos e, if_pos (.inr ⟨n, by rw [key n hn, if_pos rfl], e⟩)]
    · rw [if_neg e]
      have : (y = x ∨ ∃ k, (left (nk k) && !(nk k).sameKey (nk n)) = false ∧ y ∈ ((T.q k).rel cp x).2) ↔ (y = x ∨ ∃ k, left (nk k) = false ∧ y ∈ ((T.q k).rel cp x).2) := by
        refine or_congr Iff.rfl ⟨?_, ?_⟩
        · rintro ⟨k, h1, h2⟩
          cases e3 : T.qs k with
          | none => rw [rel_none e3] at h2; cases h2
          | some q =>
            rw [key k (hw k q e3)] at h1
            by_cases e2 : k = n
            · subst e2; exact absurd h2 e
            · rw [if_neg e2] at h1; exact ⟨k, h1, h2⟩
        · rintro ⟨k, h1, h2⟩
          exact ⟨k, by rw [h1]; rfl, h2⟩
      by_cases c : (y = x ∨ ∃ k, left (nk k) = false ∧ y ∈ ((T.q k).rel cp x).2)
      · rw [if_pos c, if_pos (this.2 c)]
      · rw [if_neg c, if_neg fun h => c (this.1 h)]
end
/-- What stands in memory in the midst of a release. -/
structure RM (w0 : World) (F : Nat → Prop) (w : World) (Fj : Nat → Prop) (t a b r C : Nat) (T : Tbl) (fq : Lit → Option Value) (gq : Nm → Nat) (Fn : Nm → Nat → Prop) (left : Lit → Bool) (cnt : Nat) : Prop where
  tx : Tx w Fj t a b C T fq gq Fn
  mr : MpR w Tryd.prog 27 a r C fq left cnt
  kp : Kpf F w0 w
  fe : ∀ i, Fj i → Ext F w0 w i
  nr : ∀ n, ¬ Fn n r
  r0 : w0.heap.size ≤ r
  a0 : a < w0.heap.size
  b0 : b < w0.heap.size
  t0 : t < w0.heap.size
section
variable {w0 w w' : World} {F Fj : Nat → Prop} {t a b r C : Nat} {T : Tbl} {fq : Lit → Option Value} {gq : Nm → Nat} {Fn : Nm → Nat → Prop} {left : Lit → Bool} {cnt : Nat}
theorem RM.below (h : RM w0 F w Fj t a b r C T fq gq Fn left cnt) (hb : Below w.heap.size w w') : RM w0 F w' Fj t a b r C T fq gq Fn left cnt :=
  ⟨h.tx.kept hb, h.mr.of_blocks (hb.block a h.tx.mq.lt) (hb.block r h.mr.lt), h.kp.same (.of_below hb), fun i hi => ext_more hb.size (h.fe i hi), h.nr, h.r0, h.a0, h.b0, h.t0⟩
theorem RM.as {T' : Tbl} (h : RM w0 F w Fj t a b r C T fq gq Fn left cnt) (e1 : ∀ k, T'.qs k = T.qs k) (e2 : ∀ y, T'.wt y = T.wt y) : RM w0 F w Fj t a b r C T' fq gq Fn left cnt :=
  ⟨h.tx.as e1 e2, h.mr, h.kp, h.fe, h.nr, h.r0, h.a0, h.b0, h.t0⟩
theorem RM.iter (h : RM w0 F w Fj t a b r C T fq gq Fn left cnt) {left' : Lit → Bool} {cnt' : Nat} (hm : MpR w' Tryd.prog 27 a r C fq left' cnt') (hg : w.grownBy w' (some r)) : RM w0 F w' Fj t a b r C T fq gq Fn left' cnt' := by
  have un : ∀ i, i < w.heap.size → i ≠ r → w'.heap[i]? = w.heap[i]? := fun i hi hne => hg.block i hi fun e => hne (Option.some.inj e)
  have x := h.tx
  have hr := h.r0
  refine ⟨⟨(un t x.bk.lt (by have := h.t0; omega)).trans x.bk, x.ft, x.fa, x.fb, fun i hi => Nat.lt_of_lt_of_le (x.bd i hi) hg.size, x.nr, hm.mp, x.hq, x.wf, x.mw.of_block (un b x.mw.lt (by have := h.b0; omega)), fun n q hq => ?_, x.sub, x.dis, ?_, x.ab⟩, hm, h.kp.trans (G := fun i => i = r) ⟨hg.os, hg.tape, hg.output, hg.size, fun i hi hn => un i hi hn⟩ (fun i hi => .inr (by rw [hi]; exact hr)), fun i hi => ext_more hg.size (h.fe i hi), h.nr, h.r0, h.a0, h.b0, h.t0⟩
  · obtain ⟨v1, v2, v3, hm2⟩ := x.qm n q hq
    exact ⟨v1, v2, v3, hm2.same fun i hi hlt => un i hlt fun e => h.nr n (by rw [← e]; exact hi)⟩
  · have e : w'.heap[0]? = w.heap[0]? := by
      by_cases e : 0 = r
      · exfalso
        have hc := x.tab.2 0 (by decide)
        obtain ⟨D, ⟨es, clock, since, seen, c0, h1, h2, h3, h4, h5, h6⟩, d⟩ := h.mr
        rw [e] at hc
        simp [World.cell?, h5] at hc
      · exact un _ x.tab.1 e
    exact ⟨Nat.lt_of_lt_of_le x.tab.1 hg.size, fun i hi => by rw [World.cell?_of_block (w := w) e]; exact x.tab.2 i hi⟩
theorem RM.turn (h : RM w0 F w Fj t a b r C T fq gq Fn left cnt) {n : Nm} {q q' : Que} (hq : T.qs n = some q) {vh ve vw : Value} (hk : Kpf (Fn n) w w') (hm : Qm w' (Ext (Fn n) w w') (gq n) vh ve vw q') :
    RM w0 F w' (Ext Fj w w') t a b r C ⟨fun k => if k = n then some q' else T.qs k, T.wt⟩ fq gq (fun k => if k = n then Ext (Fn n) w w' else Fn k) left cnt := by
  have na : ¬ Fn n a := fun e => (h.tx.sub n a e).2.2.1 rfl
  refine ⟨h.tx.turn hq hk hm, h.mr.of_blocks (hk.block a h.tx.mq.lt na) (hk.block r h.mr.lt (h.nr n)), h.kp.trans hk fun i hi => ?_, fun i hi => ?_, fun k hk2 => ?_, h.r0, h.a0, h.b0, h.t0⟩
  · rcases h.fe i (h.tx.sub n i hi).1 with h1 | h1
    · exact .inl h1
    · exact .inr h1.1
  · rcases hi with hi | hi
    · exact ext_more hk.size (h.fe i hi)
    · exact .inr ⟨Nat.le_trans h.kp.size hi.1, hi.2⟩
  · by_cases e : k = n
    · simp only [if_pos e] at hk2
      rcases hk2 with h1 | h1
      · exact h.nr n h1
      · have := h.mr.lt; omega
    · simp only [if_neg e] at hk2
      exact h.nr k hk2
theorem RM.unwait (h : RM w0 F w Fj t a b r C T fq gq Fn left cnt) {e : Int} (hm : Mp w' Tryd.prog 3 b C (fdel (keyI fun y => (T.wt y).map nV) (.int .i64 e))) (hg : w.grownBy w' (some b)) :
    RM w0 F w' Fj t a b r C ⟨T.qs, fun y => if y = e then none else T.wt y⟩ fq gq Fn left cnt := by
  rw [keyI_del] at hm
  have ne : ∀ i, i < w.heap.size → i ≠ b → w'.heap[i]? = w.heap[i]? := fun i hi hne => hg.block i hi fun e => hne (Option.some.inj e)
  refine ⟨h.tx.wait (Nat.le_refl _) hm (fun y => by by_cases e2 : y = e <;> simp [e2]) hg, h.mr.of_blocks (ne a h.tx.mq.lt h.tx.ab) (ne r h.mr.lt (by have := h.r0; have := h.b0; omega)), h.kp.trans (G := fun i => i = b) ⟨hg.os, hg.tape, hg.output, hg.size, fun i hi hn => ne i hi hn⟩ (fun i hi => by
    subst hi
    rcases h.fe i h.tx.fb with h1 | h1
    · exact .inl h1
    · exact .inr h1.1), fun i hi => ext_more hg.size (h.fe i hi), h.nr, h.r0, h.a0, h.b0, h.t0⟩
theorem RM.drop (h : RM w0 F w Fj t a b r C T fq gq Fn left cnt) {n : Nm} (hn : n.wf) {left' : Lit → Bool} {cnt' : Nat} (hm : MpR w' Tryd.prog 27 a r C (fdel fq (nk n)) left' cnt') (hg : w.grownBy w' (some a)) :
    RM w0 F w' (fun i => Fj i ∨ False) t a b r C ⟨fun k => if k = n then none else T.qs k, T.wt⟩ (fdel fq (nk n)) (fun k => if k = n then 0 else gq k) (fun k => if k = n then (fun _ => False) else Fn k) left' cnt' := by
  refine ⟨h.tx.laid (Nat.le_refl _) hn hm.mp (fun k hk => by
    unfold fdel
    rw [nk_same hk hn]
    by_cases e : k = n
    · simp [e]
    · simp [e]) hg (fun _ => False) (fun q hq => by cases hq) (fun i hi => hi.elim), hm, h.kp.trans (G := fun i => i = a) ⟨hg.os, hg.tape, hg.output, hg.size, fun i hi hn => hg.block i hi fun e => hn (Option.some.inj e)⟩ (fun i hi => by
    subst hi
    rcases h.fe i h.tx.fa with h1 | h1
    · exact .inl h1
    · exact .inr h1.1), fun i hi => ?_, fun k hk => ?_, h.r0, h.a0, h.b0, h.t0⟩
  · rcases hi with hi | hi
    · exact ext_more hg.size (h.fe i hi)
    · exact hi.elim
  · by_cases e : k = n
    · simp only [if_pos e] at hk
    · simp only [if_neg e] at hk; exact h.nr k hk
end
end Go.Proofs.YtnpnpkaklamboaaDoor
