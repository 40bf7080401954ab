/- Two tables side by side; names have nothing to do with one another. -/
import Derived.Test.YtnpnpkaklamboaaDoorLkCl
set_option linter.unusedVariables false
set_option linter.unusedSimpArgs false
namespace Go.Proofs.YtnpnpkaklamboaaDoor
open Go.RowKit Go.Shelf Go.Maps

theorem name_equal (a b : Nm) (w : World) : (Op.equalIn 10000 27 (nV a) (nV b)).run Tryd.prog w = .ok (decide (a = b)) w := by
  obtain ⟨a1, ⟨a2⟩⟩ := a
  obtain ⟨b1, ⟨b2⟩⟩ := b
  unfold nV
  go_simp
  have e : (({ data := a2 } : ByteArray).toList = ({ data := b2 } : ByteArray).toList) ↔ a2 = b2 := by
    rw [ByteArray.toList_eq, ByteArray.toList_eq]
    exact ⟨fun h => Array.ext' h, fun h => by rw [h]⟩
  by_cases h1 : a1 = b1 <;> by_cases h2 : a2 = b2 <;> simp [h1, h2, e]
theorem name_eql (a b : Nm) (w : World) : (binOp .eql 27 (nV a) (nV b)).run Tryd.prog w = .ok (.bool (decide (a = b))) w := by
  rw [run_eql_struct, name_equal]; rfl
theorem name_neq (a b : Nm) (w : World) : (binOp .neq 27 (nV a) (nV b)).run Tryd.prog w = .ok (.bool (!decide (a = b))) w := by
  rw [run_neq_struct, name_equal]; rfl
theorem name_guard : Tryd.prog.eqGuardType Tryd.prog.depth 27 = false := by kernel_rfl
theorem ask_has {q : Que} {x y : Int} {m : Nat} (h : (q.ask cpN jnN x m).1.has y) : q.has y ∨ y = x := by
  unfold Que.ask at h
  cases hg : getH x q.hs with
  | none =>
    rw [hg] at h
    dsimp only at h
    split at h
    · rcases h with ⟨g, hg', e⟩ | h
      · rcases insH_mem.1 hg' with rfl | hg'
        · exact .inr e.symm
        · exact .inl (.inl ⟨g, hg', e⟩)
      · exact .inl (.inr h)
    · rcases h with h | ⟨p, hp, e⟩
      · exact .inl (.inl h)
      · rcases List.mem_append.1 hp with hp | hp
        · exact .inl (.inr ⟨p, hp, e⟩)
        · rw [List.mem_singleton] at hp
          subst hp
          exact .inr e.symm
  | some g =>
    rw [hg] at h
    dsimp only at h
    split at h
    · rcases h with ⟨k, hk, e⟩ | h
      · obtain ⟨k', hk', rfl⟩ := setH_mem.1 hk
        exact .inl (.inl ⟨k', hk', by split at e <;> exact e⟩)
      · exact .inl (.inr h)
    · rcases h with ⟨k, hk, e⟩ | h
      · obtain ⟨k', hk', rfl⟩ := setH_mem.1 hk
        exact .inl (.inl ⟨k', hk', by split at e <;> exact e⟩)
      · exact .inl (.inr h)
/-- What the two tables have to do with one another: whoever is mine asks for the name alone. -/
structure NI (n : Nm) (mine : Int → Bool) (Ta Tb : Tbl) : Prop where
  eq : Ta.q n = Tb.q n
  oa : ∀ k, k ≠ n → ∀ y, mine y = true → ¬ (Ta.q k).has y
  ob : ∀ k, k ≠ n → Tb.qs k = none
section
variable {n : Nm} {mine : Int → Bool} {Ta Tb : Tbl}
theorem NI.wt (h : NI n mine Ta Tb) (ha : Ta.ok cpN) (hb : Tb.ok cpN) {y : Int} (hy : mine y = true) : (Ta.wt y).isSome = (Tb.wt y).isSome := by
  cases e : Ta.wt y with
  | some k =>
    have hw := (ha.w y k).1 e
    have hk : k = n := Decidable.byContradiction fun hne => h.oa k hne y hy (waits_has (ha.at_ k).1 hw)
    subst hk
    rw [(hb.w y k).2 (by rw [← h.eq]; exact hw)]
  | none =>
    cases e2 : Tb.wt y with
    | none => rfl
    | some k =>
      exfalso
      have hw := (hb.w y k).1 e2
      by_cases hk : k = n
      · subst hk
        rw [(ha.w y k).2 (by rw [h.eq]; exact hw)] at e
        cases e
      · rw [Tbl.q_none (h.ob k hk)] at hw
        rcases hw with hw | ⟨p, hp, _⟩
        · cases hw
        · cases hp
theorem NI.mode (h : NI n mine Ta Tb) (y : Int) : Ta.mode y n = Tb.mode y n := by unfold Tbl.mode; rw [h.eq]
/-- A stranger asks for another name. -/
theorem NI.other (h : NI n mine Ta Tb) {k : Nm} (hk : k ≠ n) {x : Int} (hx : mine x = false) (m : Nat) : NI n mine (Ta.asked cpN jnN x k m) Tb where
  eq := by rw [Tbl.asked_q, if_neg (fun e => hk e.symm)]; exact h.eq
  oa j hj y hy hh := by
    rw [Tbl.asked_q] at hh
    split at hh
    · rename_i e
      subst e
      rcases ask_has hh with hh | hh
      · exact h.oa j hj y hy hh
      · subst hh; rw [hx] at hy; cases hy
    · exact h.oa j hj y hy hh
  ob := h.ob
/-- One of mine asks for the name, in both. -/
theorem NI.ask (h : NI n mine Ta Tb) (x : Int) (m : Nat) : NI n mine (Ta.asked cpN jnN x n m) (Tb.asked cpN jnN x n m) where
  eq := by rw [Tbl.asked_q, if_pos rfl, Tbl.asked_q, if_pos rfl, h.eq]
  oa j hj y hy := by rw [Tbl.asked_q, if_neg hj]; exact h.oa j hj y hy
  ob j hj := by unfold Tbl.asked; dsimp only; rw [if_neg hj]; exact h.ob j hj
/-- One of mine is released, in both. -/
theorem NI.rel (h : NI n mine Ta Tb) (ha : Ta.ok cpN) (hb : Tb.ok cpN) {x : Int} (hx : mine x = true) : NI n mine (Ta.release cpN x) (Tb.release cpN x) where
  eq := by rw [Tbl.release_q lawN.sy ha, Tbl.release_q lawN.sy hb, h.eq]
  oa j hj y hy := by
    rw [Tbl.release_q lawN.sy ha]
    have : (Ta.q j).rel cpN x = (Ta.q j, []) := by
      unfold Que.rel
      rw [if_neg (h.oa j hj x hx)]
    rw [this]
    exact h.oa j hj y hy
  ob j hj := by
    unfold Tbl.release
    dsimp only
    rw [h.ob j hj]
theorem nil_has {y : Int} (h : Que.nil.has y) : False := by
  rcases h with ⟨g, hg, _⟩ | ⟨p, hp, _⟩
  · cases hg
  · cases hp
theorem NI.nil (n : Nm) (mine : Int → Bool) : NI n mine Tbl.nil Tbl.nil := ⟨rfl, fun k _ y _ h => nil_has h, fun k _ => rfl⟩
end
/-- Two tables side by side, younger than a world; S: blocks of one's own. -/
structure L2 (w0 : World) (S : Nat → Prop) (w : World) (ta tb k : Nat) (Ta Tb : Tbl) : Prop where
  lt : ∃ Fa Fb, Lt Fa w ta k Ta ∧ Lt Fb w tb k Tb ∧ (∀ i, Fa i → ¬ Fb i) ∧ (∀ i, Fa i ∨ Fb i → w0.heap.size ≤ i) ∧ ∀ i, S i → ¬ Fa i ∧ ¬ Fb i ∧ i < w.heap.size
  kp : Below w0.heap.size w0 w
section
variable {w0 w w' : World} {S : Nat → Prop} {ta tb k : Nat} {Ta Tb : Tbl}
theorem L2.oka (h : L2 w0 S w ta tb k Ta Tb) : Ta.ok cpN := by obtain ⟨Fa, Fb, h1, _⟩ := h.lt; exact h1.ok
theorem L2.okb (h : L2 w0 S w ta tb k Ta Tb) : Tb.ok cpN := by obtain ⟨Fa, Fb, _, h1, _⟩ := h.lt; exact h1.ok
theorem L2.kept (h : L2 w0 S w ta tb k Ta Tb) (hb : Below w.heap.size w w') : L2 w0 S w' ta tb k Ta Tb := by
  obtain ⟨Fa, Fb, h1, h2, h3, h4, h5⟩ := h.lt
  exact ⟨⟨Fa, Fb, h1.kept hb, h2.kept hb, h3, h4, fun i hi => ⟨(h5 i hi).1, (h5 i hi).2.1, Nat.lt_of_lt_of_le (h5 i hi).2.2 hb.size⟩⟩, below_then h.kp hb h.kp.size⟩
theorem L2.mono (h : L2 w0 S w ta tb k Ta Tb) {m : Nat} (hm : k ≤ m) : L2 w0 S w ta tb m Ta Tb := by
  obtain ⟨Fa, Fb, h1, h2, h3, h4, h5⟩ := h.lt
  exact ⟨⟨Fa, Fb, h1.mono hm, h2.mono hm, h3, h4, h5⟩, h.kp⟩
theorem L2.alloc (h : L2 w0 S w ta tb k Ta Tb) (o : Obj) : L2 w0 (fun i => S i ∨ i = w.heap.size) (w.alloc o) ta tb k Ta Tb := by
  obtain ⟨Fa, Fb, h1, h2, h3, h4, h5⟩ := h.lt
  have hb : Below w.heap.size w (w.alloc o) := (Below.refl _ w).alloc (Nat.le_refl _) o
  refine ⟨⟨Fa, Fb, h1.kept hb, h2.kept hb, h3, h4, fun i hi => ?_⟩, below_then h.kp hb h.kp.size⟩
  rcases hi with hi | rfl
  · exact ⟨(h5 i hi).1, (h5 i hi).2.1, Nat.lt_of_lt_of_le (h5 i hi).2.2 hb.size⟩
  · exact ⟨fun hf => by have := h1.tm.lt _ hf; omega, fun hf => by have := h2.tm.lt _ hf; omega, by simp⟩
theorem L2.sub (h : L2 w0 S w ta tb k Ta Tb) {S' : Nat → Prop} (hs : ∀ i, S' i → S i) : L2 w0 S' w ta tb k Ta Tb := by
  obtain ⟨Fa, Fb, h1, h2, h3, h4, h5⟩ := h.lt
  exact ⟨⟨Fa, Fb, h1, h2, h3, h4, fun i hi => h5 i (hs i hi)⟩, h.kp⟩
theorem L2.swap (h : L2 w0 S w ta tb k Ta Tb) : L2 w0 S w tb ta k Tb Ta := by
  obtain ⟨Fa, Fb, h1, h2, h3, h4, h5⟩ := h.lt
  exact ⟨⟨Fb, Fa, h2, h1, fun i hb ha => h3 i ha hb, fun i hi => h4 i hi.symm, fun i hi => ⟨(h5 i hi).2.1, (h5 i hi).1, (h5 i hi).2.2⟩⟩, h.kp⟩
theorem L2.step {Fa Fb : Nat → Prop} {T' : Tbl} {k' : Nat} (h : Below w0.heap.size w0 w) (h2 : Lt Fb w tb k Tb) (h3 : ∀ i, Fa i → ¬ Fb i) (h4 : ∀ i, Fa i ∨ Fb i → w0.heap.size ≤ i) (h5 : ∀ i, S i → ¬ Fa i ∧ ¬ Fb i ∧ i < w.heap.size)
    (hk : Kpf Fa w w') (hl : Lt (Ext Fa w w') w' ta k' T') (hkk : k ≤ k') : L2 w0 S w' ta tb k' T' Tb ∧ Ks S w w' :=
  ⟨⟨⟨_, Fb, hl, Lt.mono ⟨h2.tm.apart hk (fun i hb ha => h3 i ha hb) hl.tm.tab, h2.ok, h2.few, h2.bd⟩ hkk, fun i hi hb => hi.elim (fun ha => h3 i ha hb) fun e => by have := h2.tm.lt i hb; omega, fun i hi => by
    rcases hi with (hi | hi) | hi
    · exact h4 i (.inl hi)
    · exact Nat.le_trans h.size hi.1
    · exact h4 i (.inr hi), fun i hi => ⟨fun e => e.elim (h5 i hi).1 fun e => by have := (h5 i hi).2.2; omega, (h5 i hi).2.1, Nat.lt_of_lt_of_le (h5 i hi).2.2 hk.size⟩⟩, h.trans (hk.to_below h.size fun i hi => h4 i (.inl hi))⟩, fun i hi => hk.block i (h5 i hi).2.2 (h5 i hi).1⟩
theorem L2.touch (h : L2 w0 S w ta tb k Ta Tb) (hT : Tab w0) {g : Nat} (hg : w.grownBy w' (some g)) (hS : S g) (hge : w0.heap.size ≤ g) : L2 w0 S w' ta tb k Ta Tb := by
  obtain ⟨Fa, Fb, h1, h2, h3, h4, h5⟩ := h.lt
  have un : ∀ i, i < w.heap.size → i ≠ g → w'.heap[i]? = w.heap[i]? := fun i hi hne => hg.block i hi fun e => hne (Option.some.inj e)
  have kf : Kpf (fun i => i = g) w w' := ⟨hg.os, hg.tape, hg.output, hg.size, fun i hi hn => un i hi hn⟩
  have hb : Below w0.heap.size w w' := ⟨hg.os, hg.tape, hg.output, hg.size, fun i hi => un i (Nat.lt_of_lt_of_le hi h.kp.size) (by omega)⟩
  have e := hb.block 0 hT.1
  have hT' : Tab w' := ⟨Nat.lt_of_lt_of_le h1.tm.tab.1 hg.size, fun i hi => by rw [World.cell?_of_block (w := w) e]; exact h1.tm.tab.2 i hi⟩
  exact ⟨⟨Fa, Fb, ⟨h1.tm.apart kf (fun i hi e => (h5 g hS).1 (by rw [← e]; exact hi)) hT', h1.ok, h1.few, h1.bd⟩, ⟨h2.tm.apart kf (fun i hi e => (h5 g hS).2.1 (by rw [← e]; exact hi)) hT', h2.ok, h2.few, h2.bd⟩, h3, h4, fun i hi => ⟨(h5 i hi).1, (h5 i hi).2.1, Nat.lt_of_lt_of_le (h5 i hi).2.2 hg.size⟩⟩, h.kp.trans hb⟩
theorem l2_ask (h : L2 w0 S w ta tb k Ta Tb) (hk : k ≤ 300) (x : Int) (hx : I64 x) (n : Nm) (hn : n.wf) (m : Nat) (hm1 : 0 < m) (hm2 : m ≤ 6) (hw : Ta.wt x = none) :
    Calls Tryd.prog 12 #[ptr ta, .int .i64 x, .agg #[.int .i64 n.s, .string n.t], .int .i64 (m : Int)] w fun e w' => e = .returned (.tuple #[.bool ((Ta.q n).ask cpN jnN x m).2, .int .i64 0]) ∧ L2 w0 S w' ta tb (k + 1) (Ta.asked cpN jnN x n m) Tb ∧ Ks S w w' := by
  obtain ⟨Fa, Fb, h1, h2, h3, h4, h5⟩ := h.lt
  exact (lt_ask h1 hk x hx n hn m hm1 hm2 hw).mono fun e w' ⟨a, b, c⟩ => ⟨a, L2.step h.kp h2 h3 h4 h5 b c (Nat.le_succ k)⟩
theorem l2_rel (h : L2 w0 S w ta tb k Ta Tb) (hk : k ≤ 300) (x : Int) (hx : I64 x) :
    Calls Tryd.prog 11 #[ptr ta, .int .i64 x] w fun e w' => e = .returned (.tuple #[]) ∧ L2 w0 S w' ta tb k (Ta.release cpN x) Tb ∧ Ks S w w' := by
  obtain ⟨Fa, Fb, h1, h2, h3, h4, h5⟩ := h.lt
  exact (lt_rel h1 hk x hx).mono fun e w' ⟨a, b, c⟩ => ⟨a, L2.step h.kp h2 h3 h4 h5 b c (Nat.le_refl k)⟩
theorem L2.one (h : L2 w0 S w ta tb k Ta Tb) : L1 w0 S w ta k Ta := by
  obtain ⟨Fa, Fb, h1, h2, h3, h4, h5⟩ := h.lt
  exact ⟨⟨Fa, h1, fun i hi => h4 i (.inl hi), fun i hi => ⟨(h5 i hi).1, (h5 i hi).2.2⟩⟩, h.kp⟩
theorem L2.ks (h : L2 w0 S w ta tb k Ta Tb) (hb : Below w.heap.size w w') : Ks S w w' := h.one.ks hb
theorem l2_new (hT : Tab w) {t : Nat} {w1 : World} (hL : L1 w (fun _ => False) w1 t 0 Tbl.nil) : Calls Tryd.prog 10 #[] w1 fun e w' => ∃ t', e = .returned (ptr t') ∧ L2 w (fun _ => False) w' t t' 0 Tbl.nil Tbl.nil := by
  obtain ⟨F, h1, h2, h3⟩ := hL.lt
  exact (lt_new h1.tm.tab).mono fun e w' ⟨t', a, b, c⟩ => ⟨t', a, ⟨F, _, h1.kept b, c, fun i hi hb => by have := h1.tm.lt i hi; omega, fun i hi => hi.elim (h2 i) fun e => Nat.le_trans hL.kp.size e.1, fun i hi => hi.elim⟩, below_then hL.kp b hL.kp.size⟩
end
end Go.Proofs.YtnpnpkaklamboaaDoor
