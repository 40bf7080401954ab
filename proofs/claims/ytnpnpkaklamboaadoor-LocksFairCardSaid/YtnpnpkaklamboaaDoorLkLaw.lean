/- A table of locks as the laws meet it. Two that wait, and what a release gives. -/
import Derived.Test.YtnpnpkaklamboaaDoorLkArcs
set_option linter.unusedVariables false
set_option linter.unusedSimpArgs false
namespace Go.Proofs.YtnpnpkaklamboaaDoor
open Go.RowKit Go.Shelf Go.Maps

/-- A table behind k questions. -/
structure Lt (F : Nat → Prop) (w : World) (t k : Nat) (T : Tbl) : Prop where
  tm : Tm w F t (2 * k) T
  ok : T.ok cpN
  few : T.few k
  bd : T.bd
def I64 (x : Int) : Prop := -9223372036854775808 ≤ x ∧ x ≤ 9223372036854775807
instance (x : Int) : Decidable (I64 x) := by unfold I64; infer_instance
theorem Tbl.few.mono {T : Tbl} {N M : Nat} (h : T.few N) (hM : N ≤ M) : T.few M := fun n q e => ⟨Nat.le_trans (h n q e).1 hM, Nat.le_trans (h n q e).2 hM⟩
section
variable {F : Nat → Prop} {w w' : World} {t k : Nat} {T : Tbl}
theorem Lt.kept (h : Lt F w t k T) (hb : Below w.heap.size w w') : Lt F w' t k T := ⟨h.tm.kept hb, h.ok, h.few, h.bd⟩
theorem Lt.mono (h : Lt F w t k T) {m : Nat} (hm : k ≤ m) : Lt F w t m T := ⟨h.tm.mono (by omega), h.ok, h.few.mono hm, h.bd⟩
theorem lt_new (hT : Tab w) : Calls Tryd.prog 10 #[] w fun e w' => ∃ t, e = .returned (ptr t) ∧ Below w.heap.size w w' ∧ Lt (fun i => w.heap.size ≤ i ∧ i < w'.heap.size) w' t 0 Tbl.nil :=
  (new_any hT).mono fun e w' ⟨t, h1, h2, h3⟩ => ⟨t, h1, h2, h3, .nil, .nil _, .nil⟩
theorem lt_ask (h : Lt F w t k T) (hk : k ≤ 300) (x : Int) (hx : I64 x) (n : Nm) (hn : n.wf) (m : Nat) (hm1 : 0 < m) (hm2 : m ≤ 6) (hw : T.wt x = none) :
    Calls Tryd.prog 12 #[ptr t, .int .i64 x, .agg #[.int .i64 n.s, .string n.t], .int .i64 (m : Int)] w fun e w' => e = .returned (.tuple #[.bool ((T.q n).ask cpN jnN x m).2, .int .i64 0]) ∧ Kpf F w w' ∧ Lt (Ext F w w') w' t (k + 1) (T.asked cpN jnN x n m) :=
  (askt_any h.tm h.ok h.few h.bd (by omega) (by omega) x hx n hn m hm1 hm2 hw).mono fun e w' ⟨h1, h2, h3⟩ => ⟨h1, h2, h3.mono (by omega), h.ok.asked lawN (by omega) hw, h.few.asked x n m, h.bd.asked (fun a b => jnN_le) hx n hm2⟩
theorem lt_rel (h : Lt F w t k T) (hk : k ≤ 300) (x : Int) (hx : I64 x) :
    Calls Tryd.prog 11 #[ptr t, .int .i64 x] w fun e w' => e = .returned (.tuple #[]) ∧ Kpf F w w' ∧ Lt (Ext F w w') w' t k (T.release cpN x) :=
  (release_any h.tm h.ok h.few h.bd (by omega) x hx).mono fun e w' ⟨h1, h2, h3⟩ => ⟨h1, h2, h3, h.ok.release lawN.sy x, h.few.release x, h.bd.release x⟩
end
/-- The same where all that the table holds is younger than a world; S: blocks of one's own, which no table touches. -/
structure L1 (w0 : World) (S : Nat → Prop) (w : World) (t k : Nat) (T : Tbl) : Prop where
  lt : ∃ F, Lt F w t k T ∧ (∀ i, F i → w0.heap.size ≤ i) ∧ ∀ i, S i → ¬ F i ∧ i < w.heap.size
  kp : Below w0.heap.size w0 w
def Ks (S : Nat → Prop) (w w' : World) : Prop := ∀ i, S i → w'.heap[i]? = w.heap[i]?
theorem Ks.bk {S : Nat → Prop} {w w' : World} (h : Ks S w w') {g : Nat} {t : TypeId} {cs : Array Value} (hS : S g) (hb : Bk w g t cs) : Bk w' g t cs := (h g hS).trans hb
section
variable {w0 w w' : World} {S : Nat → Prop} {t k : Nat} {T : Tbl}
theorem L1.ok (h : L1 w0 S w t k T) : T.ok cpN := by obtain ⟨F, h1, _⟩ := h.lt; exact h1.ok
theorem L1.kept (h : L1 w0 S w t k T) (hb : Below w.heap.size w w') : L1 w0 S w' t k T := by
  obtain ⟨F, h1, h2, h3⟩ := h.lt
  exact ⟨⟨F, h1.kept hb, h2, fun i hi => ⟨(h3 i hi).1, Nat.lt_of_lt_of_le (h3 i hi).2 hb.size⟩⟩, below_then h.kp hb h.kp.size⟩
theorem L1.drew (h : L1 w0 S w t k T) : L1 w0 S w.drew t k T := h.kept ((Below.refl _ w).drew)
theorem L1.ks (h : L1 w0 S w t k T) (hb : Below w.heap.size w w') : Ks S w w' := fun i hi => by
  obtain ⟨F, h1, h2, h3⟩ := h.lt
  exact hb.block i (h3 i hi).2
theorem L1.alloc (h : L1 w0 S w t k T) (o : Obj) : L1 w0 (fun i => S i ∨ i = w.heap.size) (w.alloc o) t k T := by
  obtain ⟨F, h1, h2, h3⟩ := h.lt
  have hb : Below w.heap.size w (w.alloc o) := (Below.refl _ w).alloc (Nat.le_refl _) o
  refine ⟨⟨F, h1.kept hb, h2, fun i hi => ?_⟩, below_then h.kp hb h.kp.size⟩
  rcases hi with hi | rfl
  · exact ⟨(h3 i hi).1, Nat.lt_of_lt_of_le (h3 i hi).2 hb.size⟩
  · exact ⟨fun hf => by have := h1.tm.lt _ hf; omega, by simp⟩
theorem L1.sub (h : L1 w0 S w t k T) {S' : Nat → Prop} (hs : ∀ i, S' i → S i) : L1 w0 S' w t k T := by
  obtain ⟨F, h1, h2, h3⟩ := h.lt
  exact ⟨⟨F, h1, h2, fun i hi => h3 i (hs i hi)⟩, h.kp⟩
theorem l1_new (hT : Tab w) : Calls Tryd.prog 10 #[] w fun e w' => ∃ t, e = .returned (ptr t) ∧ L1 w (fun _ => False) w' t 0 Tbl.nil :=
  (lt_new hT).mono fun e w' ⟨t, h1, h2, h3⟩ => ⟨t, h1, ⟨_, h3, fun i hi => hi.1, fun i hi => hi.elim⟩, h2⟩
theorem l1_step {F : Nat → Prop} {T' : Tbl} {k' : Nat} (h : Below w0.heap.size w0 w) (hF : ∀ i, F i → w0.heap.size ≤ i) (hS : ∀ i, S i → ¬ F i ∧ i < w.heap.size) (hk : Kpf F w w') (hl : Lt (Ext F w w') w' t k' T') : L1 w0 S w' t k' T' ∧ Ks S w w' :=
  ⟨⟨⟨_, hl, fun i hi => hi.elim (hF i) fun e => Nat.le_trans h.size e.1, fun i hi => ⟨fun e => e.elim (hS i hi).1 fun e => by have := (hS i hi).2; omega, Nat.lt_of_lt_of_le (hS i hi).2 hk.size⟩⟩, h.trans (hk.to_below h.size hF)⟩, fun i hi => hk.block i (hS i hi).2 (hS i hi).1⟩
theorem l1_ask (h : L1 w0 S w t k T) (hk : k ≤ 300) (x : Int) (hx : I64 x) (n : Nm) (hn : n.wf) (m : Nat) (hm1 : 0 < m) (hm2 : m ≤ 6) (hw : T.wt x = none) :
    Calls Tryd.prog 12 #[ptr t, .int .i64 x, .agg #[.int .i64 n.s, .string n.t], .int .i64 (m : Int)] w fun e w' => e = .returned (.tuple #[.bool ((T.q n).ask cpN jnN x m).2, .int .i64 0]) ∧ L1 w0 S w' t (k + 1) (T.asked cpN jnN x n m) ∧ Ks S w w' := by
  obtain ⟨F, h1, h2, h3⟩ := h.lt
  exact (lt_ask h1 hk x hx n hn m hm1 hm2 hw).mono fun e w' ⟨a, b, c⟩ => ⟨a, l1_step h.kp h2 h3 b c⟩
theorem l1_arg (h : L1 w0 S w t k T) (x m : Int) (n : Nm) (hm : m ≤ 0 ∨ 6 < m) :
    Calls Tryd.prog 12 #[ptr t, .int .i64 x, .agg #[.int .i64 n.s, .string n.t], .int .i64 m] w fun e w' => e = .returned (.tuple #[.bool false, .int .i64 1]) ∧ L1 w0 S w' t k T ∧ Ks S w w' :=
  (askt_arg x m n hm).mono fun e w' ⟨a, b⟩ => ⟨a, h.kept b, h.ks b⟩
theorem l1_busy (h : L1 w0 S w t k T) (x m : Int) (hx : I64 x) (n : Nm) (hm1 : 0 < m) (hm2 : m ≤ 6) (hw : (T.wt x).isSome = true) :
    Calls Tryd.prog 12 #[ptr t, .int .i64 x, .agg #[.int .i64 n.s, .string n.t], .int .i64 m] w fun e w' => e = .returned (.tuple #[.bool false, .int .i64 211]) ∧ L1 w0 S w' t k T ∧ Ks S w w' := by
  obtain ⟨F, h1, h2, h3⟩ := h.lt
  exact (askt_busy h1.tm x m hx n hm1 hm2 hw).mono fun e w' ⟨a, b⟩ => ⟨a, h.kept b, h.ks b⟩
theorem l1_rel (h : L1 w0 S w t k T) (hk : k ≤ 300) (x : Int) (hx : I64 x) :
    Calls Tryd.prog 11 #[ptr t, .int .i64 x] w fun e w' => e = .returned (.tuple #[]) ∧ L1 w0 S w' t k (T.release cpN x) ∧ Ks S w w' := by
  obtain ⟨F, h1, h2, h3⟩ := h.lt
  exact (lt_rel h1 hk x hx).mono fun e w' ⟨a, b, c⟩ => ⟨a, l1_step h.kp h2 h3 b c⟩
theorem l1_mode (h : L1 w0 S w t k T) (hk : k ≤ 300) (x : Int) (n : Nm) (hn : n.wf) :
    Calls Tryd.prog 17 #[ptr t, .int .i64 x, .agg #[.int .i64 n.s, .string n.t]] w fun e w' => e = .returned (.int .i64 (T.mode x n : Int)) ∧ Below w.heap.size w w' := by
  obtain ⟨F, h1, h2, h3⟩ := h.lt
  exact mode_any h1.tm (h1.few.mono (by omega)) (by omega) x n hn
theorem l1_wait (h : L1 w0 S w t k T) (x : Int) (hx : I64 x) :
    Calls Tryd.prog 16 #[ptr t, .int .i64 x] w fun e w' => e = .returned (.bool (T.wt x).isSome) ∧ Below w.heap.size w w' := by
  obtain ⟨F, h1, h2, h3⟩ := h.lt
  exact waiting_any h1.tm x hx
theorem l1_arcs (h : L1 w0 S w t k T) (hk : k ≤ 301) :
    Calls Tryd.prog 14 #[ptr t] w fun e w' => ∃ v' A, e = .returned v' ∧ T.arcsOf A ∧ A.length ≤ 1000000000 ∧ Rk w' (fun i => w.heap.size ≤ i) 41 2 pC v' A ∧ Below w.heap.size w w' := by
  obtain ⟨F, h1, h2, h3⟩ := h.lt
  exact table_arcs h1.tm h1.few h1.bd (by omega) (by omega)
end
/-- awake's table. -/
def n0 : Nm := ⟨1, ⟨#[]⟩⟩
theorem n0_wf : n0.wf := ⟨by decide, by decide⟩
noncomputable def aw1 : Tbl := Tbl.nil.asked cpN jnN 1 n0 3
noncomputable def aw2 : Tbl := aw1.asked cpN jnN 2 n0 6
noncomputable def aw3 : Tbl := aw2.asked cpN jnN 3 n0 3
theorem aw1_q : aw1.q n0 = ⟨[⟨1, 3, 0⟩], [], []⟩ := by unfold aw1; rw [Tbl.asked_q, if_pos rfl]; rfl
theorem aw2_q : aw2.q n0 = ⟨[⟨1, 3, 0⟩], [], [(2, 6)]⟩ := by unfold aw2; rw [Tbl.asked_q, if_pos rfl, aw1_q]; rfl
theorem aw3_q : aw3.q n0 = ⟨[⟨1, 3, 0⟩], [], [(2, 6), (3, 3)]⟩ := by unfold aw3; rw [Tbl.asked_q, if_pos rfl, aw2_q]; rfl
theorem aw_a1 : ((Tbl.nil.q n0).ask cpN jnN 1 3).2 = true := rfl
theorem aw_a2 : ((aw1.q n0).ask cpN jnN 2 6).2 = false := by rw [aw1_q]; rfl
theorem aw_a3 : ((aw2.q n0).ask cpN jnN 3 3).2 = false := by rw [aw2_q]; rfl
theorem aw_w1 : aw1.wt 2 = none := by unfold aw1 Tbl.asked; dsimp only; rw [if_neg (by rintro ⟨h, _⟩; exact absurd h (by decide))]; rfl
theorem aw_w2 : aw2.wt 3 = none := by
  unfold aw2 aw1 Tbl.asked
  dsimp only
  rw [if_neg (by rintro ⟨h, _⟩; exact absurd h (by decide)), if_neg (by rintro ⟨h, _⟩; exact absurd h (by decide))]
  rfl
theorem aw3_qs (n : Nm) : aw3.qs n = if n = n0 then some ⟨[⟨1, 3, 0⟩], [], [(2, 6), (3, 3)]⟩ else none := by
  by_cases e : n = n0
  · rw [if_pos e, e, ← aw3_q]
    unfold aw3 Tbl.q Tbl.asked
    dsimp only
    rw [if_pos rfl]
    rfl
  · rw [if_neg e]
    unfold aw3 aw2 aw1 Tbl.asked
    dsimp only
    rw [if_neg e, if_neg e, if_neg e]
    rfl
theorem aw_arcs {A : List (Int × Int)} (h : aw3.arcsOf A) : A.length = 2 := by
  have hm : ∀ p, p ∈ A ↔ p ∈ [((2 : Int), (1 : Int)), (3, 2)] := fun p => by
    rw [h.2]
    unfold Tbl.arc
    constructor
    · rintro ⟨n, q, h1, h2⟩
      rw [aw3_qs] at h1
      split at h1
      · injection h1 with h1
        subst h1
        exact h2
      · cases h1
    · intro hp
      exact ⟨n0, ⟨[⟨1, 3, 0⟩], [], [(2, 6), (3, 3)]⟩, by rw [aw3_qs, if_pos rfl], hp⟩
  have n1 : A.Nodup := h.1.imp fun h => h.2
  have a := nodup_len_le A [((2 : Int), (1 : Int)), (3, 2)] n1 fun x hx => (hm x).1 hx
  have b := nodup_len_le [((2 : Int), (1 : Int)), (3, 2)] A (by decide) fun x hx => (hm x).2 hx
  exact Nat.le_antisymm a b
theorem aw_rel (h : aw3.ok cpN) : (aw3.release cpN 1).mode 2 n0 = 6 ∧ ((aw3.release cpN 1).wt 3).isSome = true := by
  have e : (aw3.release cpN 1).q n0 = ⟨[⟨2, 6, 0⟩], [], [(3, 3)]⟩ := by
    rw [Tbl.release_q lawN.sy h, aw3_q]
    unfold Que.rel
    rw [if_pos (.inl ⟨_, List.mem_cons_self, rfl⟩)]
    rfl
  refine ⟨by unfold Tbl.mode; rw [e]; rfl, ?_⟩
  have := ((h.release lawN.sy 1).w 3 n0).2 (by rw [e]; exact .inr ⟨(3, 3), by simp, rfl⟩)
  rw [this]
  rfl
set_option maxRecDepth 100000 in
set_option maxHeartbeats 8000000 in
theorem awake_any {w : World} (hT : Tab w) : Calls Tryd.prog 9 #[] w fun e w' => e = .returned (.bool true) ∧ Below w.heap.size w w' := by
  have C0 := Lib.hid (l1_new hT)
  clear hT
  obtain ⟨K, hK⟩ : ∃ K, K = K := ⟨0, rfl⟩
  clear hK
  go_enter Tryd.func9, Tryd.ntmps9
  go_wp2_with fail
  refine C0.out.mono ?_
  rintro e w1 ⟨t, rfl, hL⟩
  obtain ⟨K, hK⟩ : ∃ K, K = w1.heap.size := ⟨_, rfl⟩
  have HK := Lib.hid hK
  have KN := Lib.hid (show Bk (w1.alloc (.cells #[.int .i64 1, .string ⟨#[]⟩] 27)) K 27 #[.int .i64 1, .string ⟨#[]⟩] from by rw [hK]; exact Bk.new w1 _ _)
  have M1 := Lib.hid (show L1 w (fun i => i = K) (w1.alloc (.cells #[.int .i64 1, .string ⟨#[]⟩] 27)) t 0 Tbl.nil from (hL.alloc _).sub fun i hi => .inr (by rw [hi, hK]))
  clear hL hK C0
  go_upto_region 3 with fail
  rw [← HK.out]
  generalize w1.alloc (.cells #[.int .i64 1, .string ⟨#[]⟩] 27) = w2 at *
  have k0 : w2.cell? ⟨K, 0, none⟩ = some (.int .i64 1) := KN.out.cell 0
  have k1 : w2.cell? ⟨K, 1, none⟩ = some (.string ⟨#[]⟩) := KN.out.cell 1
  have C1 := Lib.hid (l1_ask M1.out (by decide) 1 (by decide) n0 n0_wf 3 (by decide) (by decide) rfl)
  rw [aw_a1] at C1
  go_wp2_with fail
  refine C1.out.mono ?_
  rintro e w3 ⟨rfl, hL, hs⟩
  have M2 := Lib.hid (show L1 w (fun i => i = K) w3 t 1 aw1 from hL)
  have KN2 := Lib.hid (hs.bk rfl KN.out)
  clear k0 k1 C1 M1 KN hL hs
  have k0 : w3.cell? ⟨K, 0, none⟩ = some (.int .i64 1) := KN2.out.cell 0
  have k1 : w3.cell? ⟨K, 1, none⟩ = some (.string ⟨#[]⟩) := KN2.out.cell 1
  have C1 := Lib.hid (l1_ask M2.out (by decide) 2 (by decide) n0 n0_wf 6 (by decide) (by decide) aw_w1)
  rw [aw_a2] at C1
  as_aux_lemma =>
    go_wp2_with fail
    refine C1.out.mono ?_
    rintro e w4 ⟨rfl, hL, hs⟩
    have M1 := Lib.hid (show L1 w (fun i => i = K) w4 t 2 aw2 from hL)
    have KN := Lib.hid (hs.bk rfl KN2.out)
    clear k0 k1 C1 M2 KN2 hL hs
    have k0 : w4.cell? ⟨K, 0, none⟩ = some (.int .i64 1) := KN.out.cell 0
    have k1 : w4.cell? ⟨K, 1, none⟩ = some (.string ⟨#[]⟩) := KN.out.cell 1
    have C1 := Lib.hid (l1_ask M1.out (by decide) 3 (by decide) n0 n0_wf 3 (by decide) (by decide) aw_w2)
    rw [aw_a3] at C1
    as_aux_lemma =>
      go_wp2_with fail
      refine C1.out.mono ?_
      rintro e w5 ⟨rfl, hL, hs⟩
      have M2 := Lib.hid (show L1 w (fun i => i = K) w5 t 3 aw3 from hL)
      have KN2 := Lib.hid (hs.bk rfl KN.out)
      clear k0 k1 C1 M1 KN hL hs
      have C1 := Lib.hid (l1_arcs M2.out (by decide))
      as_aux_lemma =>
        go_wp2_with fail
        refine C1.out.mono ?_
        rintro e w6 ⟨va, A, rfl, hA, -, hr, hb⟩
        have LA := Lib.hid (aw_arcs hA)
        obtain ⟨ra, rc, hv⟩ := hr.slice
        rw [LA.out] at hv
        subst hv
        have M3 := Lib.hid (M2.out.kept hb)
        have KN3 := Lib.hid (KN2.out.kept hb)
        clear C1 M2 KN2 hA hr hb
        have C1 := Lib.hid (l1_rel M3.out (by decide) 1 (by decide))
        have AW := Lib.hid (aw_rel M3.out.ok)
        as_aux_lemma =>
          go_wp2_with fail
          refine C1.out.mono ?_
          rintro e w7 ⟨rfl, hL, hs⟩
          have M4 := Lib.hid hL
          have KN4 := Lib.hid (hs.bk rfl KN3.out)
          clear C1 M3 KN3 hL hs
          have k0 : w7.cell? ⟨K, 0, none⟩ = some (.int .i64 1) := KN4.out.cell 0
          have k1 : w7.cell? ⟨K, 1, none⟩ = some (.string ⟨#[]⟩) := KN4.out.cell 1
          have C1 := Lib.hid (l1_mode M4.out (by decide) 2 n0 n0_wf)
          rw [AW.out.1] at C1
          as_aux_lemma =>
            go_wp2_with fail
            refine C1.out.mono ?_
            rintro e w8 ⟨rfl, hb⟩
            have M5 := Lib.hid (M4.out.kept hb)
            clear C1 M4 KN4 hb k0 k1
            have C1 := Lib.hid (l1_wait M5.out 3 (by decide))
            rw [AW.out.2] at C1
            as_aux_lemma =>
              go_wp2_with fail
              refine C1.out.mono ?_
              rintro e w9 ⟨rfl, hb⟩
              have B := Lib.hid (below_then M5.out.kp hb M5.out.kp.size)
              clear C1 hb
              go_wp2
              go_ret
              exact ⟨rfl, B.out⟩
end Go.Proofs.YtnpnpkaklamboaaDoor
