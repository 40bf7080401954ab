/- A table of locks in memory: New, Waiting, Mode. -/
import Derived.Test.YtnpnpkaklamboaaDoorLkGive2
import Derived.Test.YtnpnpkaklamboaaDoorLkNm
set_option linter.unusedVariables false
set_option linter.unusedSimpArgs false
namespace Go.Proofs.YtnpnpkaklamboaaDoor
open Go.RowKit Go.Shelf Go.Maps

@[reducible] def ptr (g : Nat) : Value := .pointer (some ⟨g, 0, none⟩)
structure Tx (w : World) (F : Nat → Prop) (t a b N : Nat) (T : Tbl) (fq : Lit → Option Value) (gq : Nm → Nat) (Fn : Nm → Nat → Prop) : Prop where
  bk : Bk w t 54 #[.map (some a), .map (some b)]
  ft : F t
  fa : F a
  fb : F b
  bd : ∀ i, F i → i < w.heap.size
  nr : ¬ F 0
  mq : Mp w Tryd.prog 27 a N fq
  hq : ∀ n, n.wf → fq (nk n) = (T.qs n).map fun _ => ptr (gq n)
  wf : ∀ n q, T.qs n = some q → n.wf
  mw : Mp w Tryd.prog 3 b N (keyI fun x => (T.wt x).map nV)
  qm : ∀ n q, T.qs n = some q → ∃ vh ve vw, Qm w (Fn n) (gq n) vh ve vw q
  sub : ∀ n i, Fn n i → F i ∧ i ≠ t ∧ i ≠ a ∧ i ≠ b
  dis : ∀ n m i, Fn n i → Fn m i → n = m
  tab : Tab w
  ab : a ≠ b
def Tm (w : World) (F : Nat → Prop) (t N : Nat) (T : Tbl) : Prop := ∃ a b fq gq Fn, Tx w F t a b N T fq gq Fn
section
variable {w w' : World} {F G : Nat → Prop} {t a b N : Nat} {T : Tbl} {fq : Lit → Option Value} {gq : Nm → Nat} {Fn : Nm → Nat → Prop}
theorem Tx.same (h : Tx w F t a b N T fq gq Fn) (hs : w.heap.size ≤ w'.heap.size) (hb : ∀ i, F i → w'.heap[i]? = w.heap[i]?) (ht : Tab w') : Tx w' F t a b N T fq gq Fn :=
  ⟨(hb t h.ft).trans h.bk, h.ft, h.fa, h.fb, fun i hi => Nat.lt_of_lt_of_le (h.bd i hi) hs, h.nr, h.mq.of_block (hb a h.fa), h.hq, h.wf, h.mw.of_block (hb b h.fb), fun n q hq => by
    obtain ⟨vh, ve, vw, hm⟩ := h.qm n q hq
    exact ⟨vh, ve, vw, hm.same fun i hi _ => hb i (h.sub n i hi).1⟩, h.sub, h.dis, ht, h.ab⟩
theorem Tx.kept (h : Tx w F t a b N T fq gq Fn) (hb : Below w.heap.size w w') : Tx w' F t a b N T fq gq Fn := h.same hb.size (fun i hi => hb.block i (h.bd i hi)) (h.tab.below hb)
theorem Tm.kept (h : Tm w F t N T) (hb : Below w.heap.size w w') : Tm w' F t N T := by
  obtain ⟨a, b, fq, gq, Fn, hx⟩ := h
  exact ⟨a, b, fq, gq, Fn, hx.kept hb⟩
theorem Tm.lt (h : Tm w F t N T) : ∀ i, F i → i < w.heap.size := by
  obtain ⟨a, b, fq, gq, Fn, hx⟩ := h
  exact hx.bd
theorem Tm.nr (h : Tm w F t N T) : ¬ F 0 := by
  obtain ⟨a, b, fq, gq, Fn, hx⟩ := h
  exact hx.nr
theorem Tm.tab (h : Tm w F t N T) : Tab w := by
  obtain ⟨a, b, fq, gq, Fn, hx⟩ := h
  exact hx.tab
/-- What turns another table leaves this one. -/
theorem Tm.apart (h : Tm w F t N T) (hk : Kpf G w w') (hG : ∀ i, F i → ¬ G i) (hT : Tab w') : Tm w' F t N T := by
  obtain ⟨a, b, fq, gq, Fn, hx⟩ := h
  exact ⟨a, b, fq, gq, Fn, hx.same hk.size (fun i hi => hk.block i (hx.bd i hi) (hG i hi)) hT⟩
theorem Tm.mono (h : Tm w F t N T) {M : Nat} (hM : N ≤ M) : Tm w F t M T := by
  obtain ⟨a, b, fq, gq, Fn, hx⟩ := h
  exact ⟨a, b, fq, gq, Fn, { hx with mq := hx.mq.mono hM, mw := hx.mw.mono hM }⟩
end
theorem nm_key {n : Nm} (h : n.wf) : keyOf Tryd.prog 27 (nV n) = some (nk n) := nk_of h
theorem int_keyed9 : Keyed Tryd.prog 3 := int_keyed Tryd.underlying3
theorem ptr_zero (w : World) : (zeroValue 55).run Tryd.prog w = .ok (.pointer none) w := by kernel_rfl
theorem name_zero (w : World) : (zeroValue 27).run Tryd.prog w = .ok (nV ⟨0, ⟨#[]⟩⟩) w := by kernel_rfl
section
variable {w : World} {F : Nat → Prop} {t a b N : Nat} {T : Tbl} {fq : Lit → Option Value} {gq : Nm → Nat} {Fn : Nm → Nat → Prop}
/-- What the two maps answer. -/
theorem Tx.look (h : Tx w F t a b N T fq gq Fn) {n : Nm} (hn : n.wf) : (Instr.lookup 51 (.map (some a)) (nV n) false).run Tryd.prog w = .ok (((T.qs n).map fun _ => ptr (gq n)).getD (.pointer none)) w := by
  have := (h.mq.look nm_keyed Tryd.underlying51 (ptr_zero w) (nk_of hn)).2
  rw [h.hq n hn] at this
  exact this
theorem Tx.looks (h : Tx w F t a b N T fq gq Fn) {x : Int} (hx : (Lit.int .i64 x).wf = true) : (Instr.lookup 52 (.map (some b)) (.int .i64 x) true).run Tryd.prog w = .ok (.tuple #[nV ((T.wt x).getD ⟨0, ⟨#[]⟩⟩), .bool (T.wt x).isSome]) w := by
  have := (h.mw.look int_keyed9 Tryd.underlying52 (name_zero w) (keyOf_int_mk Tryd.underlying3 hx)).1
  rw [keyI_at] at this
  rw [this]
  cases T.wt x <;> rfl
end
theorem wf_int {x : Int} (h : -9223372036854775808 ≤ x ∧ x ≤ 9223372036854775807) : (Lit.int .i64 x).wf = true := by
  simp [Lit.wf, IntKind.min, IntKind.max, IntKind.signed, IntKind.bits]
  omega
set_option maxRecDepth 100000 in
set_option maxHeartbeats 2000000 in
theorem waiting_any {w : World} {F : Nat → Prop} {t N : Nat} {T : Tbl} (h : Tm w F t N T) (x : Int) (hx : -9223372036854775808 ≤ x ∧ x ≤ 9223372036854775807) :
    Calls Tryd.prog 16 #[ptr t, .int .i64 x] w fun e w' => e = .returned (.bool (T.wt x).isSome) ∧ Below w.heap.size w w' := by
  obtain ⟨a, b, fq, gq, Fn, hx2⟩ := h
  have y1 : w.cell? ⟨t, 1, none⟩ = some (.map (some b)) := hx2.bk.cell 1
  have lk := hx2.looks (wf_int hx)
  obtain ⟨⟨s, d⟩, hn⟩ : ∃ n, n = (T.wt x).getD ⟨0, ⟨#[]⟩⟩ := ⟨_, rfl⟩
  obtain ⟨f, hf⟩ : ∃ f, f = (T.wt x).isSome := ⟨_, rfl⟩
  rw [← hn, ← hf] at lk
  rw [← hf]
  clear hx2 hn hf hx
  go_enter Tryd.func16, Tryd.ntmps16
  go_wp2
  go_ret
  exact ⟨rfl, (Below.refl _ w).alloc (Nat.le_refl _) _⟩
/-- The transaction's mode there. -/
theorem mode_at {T : Tbl} {x : Int} {n : Nm} : T.mode x n = match getH x (T.q n).hs with | some h => h.m | none => 0 := rfl
set_option maxRecDepth 100000 in
set_option maxHeartbeats 4000000 in
theorem mode_any {w : World} {F : Nat → Prop} {t N : Nat} {T : Tbl} (h : Tm w F t N T) (hfew : T.few N) (hN : N ≤ 100000) (x : Int) (n : Nm) (hn : n.wf) :
    Calls Tryd.prog 17 #[ptr t, .int .i64 x, .agg #[.int .i64 n.s, .string n.t]] w fun e w' => e = .returned (.int .i64 (T.mode x n : Int)) ∧ Below w.heap.size w w' := by
  obtain ⟨a, b, fq, gq, Fn, h0⟩ := h
  have B1 := Lib.hid ((Below.refl w.heap.size w).alloc (Nat.le_refl _) (.cells #[.int .i64 n.s, .string n.t] 27))
  have HX := Lib.hid (h0.kept B1.out)
  have KN := Lib.hid (show Bk (w.alloc (.cells #[.int .i64 n.s, .string n.t] 27)) w.heap.size 27 #[.int .i64 n.s, .string n.t] from Bk.new w _ _)
  obtain ⟨K, hK⟩ : ∃ K, K = w.heap.size := ⟨_, rfl⟩
  have HK := Lib.hid hK
  rw [← hK] at KN
  have HN := Lib.hid hn
  obtain ⟨md, hmd⟩ : ∃ md, md = T.mode x n := ⟨_, rfl⟩
  have MD := Lib.hid hmd
  rw [← hmd]
  have FW := Lib.hid (hfew.at_ n)
  have NN := Lib.hid hN
  clear h0 hK hn hmd hfew hN
  go_enter Tryd.func17, Tryd.ntmps17
  go_upto_region 1 with fail
  rw [← HK.out]
  generalize w.alloc (.cells #[.int .i64 n.s, .string n.t] 27) = w1 at *
  have y0 := fun x : Kp w1 => show x.1.cell? ⟨t, 0, none⟩ = some (.map (some a)) from x.cell (HX.out.bk.cell 0)
  have y1 := fun x : Kp w1 => show x.1.cell? ⟨K, 0, none⟩ = some (.int .i64 n.s) from x.cell (KN.out.cell 0)
  have y2 := fun x : Kp w1 => show x.1.cell? ⟨K, 1, none⟩ = some (.string n.t) from x.cell (KN.out.cell 1)
  have lk := fun x : Kp w1 => (HX.out.kept x.2).look HN.out
  cases hq : T.qs n with
  | none =>
    simp only [hq, Option.map_none, Option.getD_none] at lk
    obtain rfl : md = 0 := by rw [MD.out]; unfold Tbl.mode; rw [Tbl.q_none hq]; rfl
    clear hq MD
    refine wp_region_kept (by kernel_rfl) (by kernel_rfl) ?_
    repeat (first
      | go_big_quiet_skip
      | (go_big_quiet_want; go_big_quiet_op; first | go_big_quiet_on))
    refine wpQuiet_nil ?_
    rintro _ ⟨x, rfl⟩
    go_wp2
    go_ret
    exact ⟨rfl, B1.out.trans (x.2.mono B1.out.size)⟩
  | some q =>
    simp only [hq, Option.map_some, Option.getD_some] at lk
    have MQ := Lib.hid (show md = match getH x q.hs with | some h => h.m | none => 0 by rw [MD.out]; unfold Tbl.mode; rw [Tbl.q_some hq]; rfl)
    have FQ := Lib.hid (show q.few N by have := FW.out; rw [Tbl.q_some hq] at this; exact this)
    obtain ⟨vh, ve, vw, qm⟩ := HX.out.qm n q hq
    have QM := Lib.hid qm
    obtain ⟨g, hg⟩ : ∃ g, g = gq n := ⟨_, rfl⟩
    rw [← hg] at lk QM
    clear hq MD FW qm hg
    refine wp_region_kept (by kernel_rfl) (by kernel_rfl) ?_
    repeat (first
      | go_big_quiet_skip
      | (go_big_quiet_want; go_big_quiet_op; first | go_big_quiet_on))
    refine wpQuiet_nil ?_
    rintro _ ⟨x1, rfl⟩
    have y0 := fun x : Kp x1.1 => show x.1.cell? ⟨t, 0, none⟩ = some (.map (some a)) from x.cell ((HX.out.kept x1.2).bk.cell 0)
    have y1 := fun x : Kp x1.1 => show x.1.cell? ⟨K, 0, none⟩ = some (.int .i64 n.s) from x.cell ((KN.out.kept x1.2).cell 0)
    have y2 := fun x : Kp x1.1 => show x.1.cell? ⟨K, 1, none⟩ = some (.string n.t) from x.cell ((KN.out.kept x1.2).cell 1)
    have lk2 := fun x : Kp x1.1 => show (Instr.lookup 51 (.map (some a)) (nV n) false).run Tryd.prog x.1 = .ok (ptr g) x.1 from lk ⟨x.1, x1.2.trans (x.2.mono x1.2.size)⟩
    have B2 := Lib.hid (B1.out.trans (x1.2.mono B1.out.size))
    have QM2 := Lib.hid (QM.out.kept x1.2)
    clear lk
    generalize x1.1 = w2 at *
    go_upto_region 3 with fail
    refine wp_region_kept (by kernel_rfl) (by kernel_rfl) ?_
    repeat (first
      | go_big_quiet_skip
      | (go_big_quiet_want; go_big_quiet_op; first | go_big_quiet_on))
    refine wpQuiet_nil ?_
    rintro _ ⟨x2, rfl⟩
    have B3 := Lib.hid (B2.out.trans (x2.2.mono B2.out.size))
    have QM3 := Lib.hid (QM2.out.kept x2.2)
    clear y0 y1 y2 lk2 QM2 B2 QM HX KN
    generalize x2.1 = w3 at B3 QM3 ⊢
    clear x2
    have FI := Lib.hid (find_any QM3.out (by have := FQ.out.1; have := NN.out; omega) x)
    cases hg : getH x q.hs with
    | none =>
      have hi := find_none hg
      rw [hi] at FI
      have m1 : ((-1 : Int) < 0) := by decide
      have M0 := Lib.hid (show md = 0 by rw [MQ.out, hg])
      clear hg hi
      go_wp2_with fail
      refine FI.out.mono ?_
      rintro e w4 ⟨rfl, hb4⟩
      have B4 := Lib.hid (below_then B3.out hb4 B3.out.size)
      clear hb4 FI
      go_wp2
      go_ret
      exact ⟨by rw [M0.out]; rfl, B4.out⟩
    | some h0 =>
      obtain ⟨i, hil, hix, hli⟩ := find_some hg
      rw [hix] at FI
      have M0 := Lib.hid (show md = h0.m by rw [MQ.out, hg])
      rcases QM3.out.hs with ⟨hv, hnil⟩ | ⟨b2, off, cap, cur, hv, hF, hA⟩
      · rw [hnil] at hil; exact absurd hil (Nat.not_lt_zero _)
      subst hv
      have HA := Lib.hid hA
      have HIL := Lib.hid hil
      have LI := Lib.hid hli
      have i0 : ¬ ((i : Int) < 0) := by omega
      have i63 : i ≤ 100000 := by have := FQ.out.1; have := NN.out; omega
      clear hg hix hli hF hA
      go_wp2_with fail
      refine FI.out.mono ?_
      rintro e w4 ⟨rfl, hb4⟩
      have B4 := Lib.hid (below_then B3.out hb4 B3.out.size)
      have z0 : w4.cell? ⟨g, 0, none⟩ = some (.slice (some ⟨b2, off, none⟩) q.hs.length cap) := (QM3.out.kept hb4).bk.cell 0
      have z1 : w4.cell? ⟨b2, off + i * 3 + 1, none⟩ = some (.int .i64 (h0.m : Int)) := (HA.out.kept hb4).cell HIL.out (by rw [LI.out]; rfl)
      clear hb4 FI
      go_wp2
      go_ret
      exact ⟨by rw [M0.out]; rfl, B4.out⟩
theorem keyI_none : keyI (fun _ => none) = fun _ => none := by
  funext x
  unfold keyI
  split <;> rfl
theorem Tm.nil_of {w w' : World} {t a b : Nat} (hT : Tab w') (hb : Bk w' t 54 #[.map (some a), .map (some b)]) (ha : Mp w' Tryd.prog 27 a 0 (fun _ => none)) (hbm : Mp w' Tryd.prog 3 b 0 (fun _ => none)) (l1 : w.heap.size ≤ t) (l2 : w.heap.size ≤ a) (l3 : w.heap.size ≤ b) (hab : a ≠ b) (hr : 0 < w.heap.size) :
    Tm w' (fun i => w.heap.size ≤ i ∧ i < w'.heap.size) t 0 Tbl.nil :=
  ⟨a, b, fun _ => none, fun _ => 0, fun _ _ => False, hb, ⟨l1, hb.lt⟩, ⟨l2, ha.lt⟩, ⟨l3, hbm.lt⟩, (fun i hi => hi.2), (fun h => by have := h.1; omega), ha, (fun n _ => rfl), (fun n q h => by cases h), hbm.congr keyI_none.symm, (fun n q h => by cases h), (fun n i h => h.elim), (fun n m i h => h.elim), hT, hab⟩
set_option maxRecDepth 100000 in
set_option maxHeartbeats 4000000 in
theorem new_any {w : World} (hT : Tab w) : Calls Tryd.prog 10 #[] w fun e w' => ∃ t, e = .returned (ptr t) ∧ Below w.heap.size w w' ∧ Tm w' (fun i => w.heap.size ≤ i ∧ i < w'.heap.size) t 0 Tbl.nil := by
  have hmm := @run_makeMap Tryd.prog
  have B := (((Below.refl w.heap.size w).alloc (Nat.le_refl _) (.map #[] 0)).alloc (by simp) (.map #[] 0)).alloc (by simp; omega) (.cells #[.map (some w.heap.size), .map (some (w.heap.size + 1))] 54)
  have a1 := ((Mp.made w Tryd.prog 27).alloc (.map #[] 0)).alloc (.cells #[.map (some w.heap.size), .map (some (w.heap.size + 1))] 54)
  have b1 := (Mp.made (w.alloc (.map #[] 0)) Tryd.prog 3).alloc (.cells #[.map (some w.heap.size), .map (some (w.heap.size + 1))] 54)
  rw [World.size_alloc] at b1
  have t1 := Bk.new3 w (.map #[] 0) (.map #[] 0) 54 #[.map (some w.heap.size), .map (some (w.heap.size + 1))]
  have TN := Lib.hid (Tm.nil_of (w := w) (hT.below B) t1 a1 b1 (by omega) (Nat.le_refl _) (by omega) (by omega) hT.1)
  have BB := Lib.hid B
  clear hT B a1 b1 t1
  go_enter Tryd.func10, Tryd.ntmps10
  go_wp2
  go_ret
  exact ⟨_, rfl, BB.out, TN.out⟩
section
variable {w w' : World} {F : Nat → Prop} {t a b N : Nat} {T : Tbl} {fq : Lit → Option Value} {gq : Nm → Nat} {Fn : Nm → Nat → Prop}
/-- A name's queue turns. -/
theorem Tx.turn (h : Tx w F t a b N T fq gq Fn) {n : Nm} {q q' : Que} (hq : T.qs n = some q) {vh ve vw : Value} (hk : Kpf (Fn n) w w') (hm : Qm w' (Ext (Fn n) w w') (gq n) vh ve vw q') :
    Tx w' (Ext F w w') t a b N ⟨fun k => if k = n then some q' else T.qs k, T.wt⟩ fq gq (fun k => if k = n then Ext (Fn n) w w' else Fn k) := by
  have nt : ¬ Fn n t := fun e => (h.sub n t e).2.1 rfl
  have na : ¬ Fn n a := fun e => (h.sub n a e).2.2.1 rfl
  have nb : ¬ Fn n b := fun e => (h.sub n b e).2.2.2 rfl
  refine ⟨hk.bk h.bk nt, .inl h.ft, .inl h.fa, .inl h.fb, fun i hi => ?_, fun hi => ?_, h.mq.of_block (hk.block a h.mq.lt na), fun k hkw => ?_, fun k p hp => ?_, h.mw.of_block (hk.block b h.mw.lt nb), fun k p hp => ?_, fun k i hi => ?_, fun k m i h1 h2 => ?_, h.tab.kpf hk fun e => h.nr (h.sub n _ e).1, h.ab⟩
  · rcases hi with hi | hi
    · exact Nat.lt_of_lt_of_le (h.bd i hi) hk.size
    · exact hi.2
  · rcases hi with hi | hi
    · exact h.nr hi
    · have := h.tab.1; omega
  · rw [h.hq k hkw]
    by_cases e : k = n
    · subst e; rw [hq]; simp
    · simp [e]
  · by_cases e : k = n
    · subst e; exact h.wf k q hq
    · simp only [if_neg e] at hp; exact h.wf k p hp
  · by_cases e : k = n
    · subst e
      simp only [if_pos] at hp ⊢
      injection hp with hp
      subst hp
      exact ⟨vh, ve, vw, hm⟩
    · simp only [if_neg e] at hp ⊢
      obtain ⟨v1, v2, v3, hm2⟩ := h.qm k p hp
      exact ⟨v1, v2, v3, hm2.same fun i hi hlt => hk.block i hlt fun e2 => e (h.dis k n i hi e2)⟩
  · have key : ∀ m, Fn m i → Ext F w w' i ∧ i ≠ t ∧ i ≠ a ∧ i ≠ b := fun m hm => ⟨.inl (h.sub m i hm).1, (h.sub m i hm).2⟩
    by_cases e : k = n
    · subst e
      simp only [if_pos] at hi
      rcases hi with hi | hi
      · exact key k hi
      · exact ⟨.inr hi, by have := h.bk.lt; omega, by have := h.mq.lt; omega, by have := h.mw.lt; omega⟩
    · simp only [if_neg e] at hi
      exact key k hi
  · have old : ∀ m, Fn m i → i < w.heap.size := fun m hm => h.bd i (h.sub m i hm).1
    by_cases e1 : k = n
    · by_cases e2 : m = n
      · rw [e1, e2]
      · simp only [if_pos e1] at h1
        simp only [if_neg e2] at h2
        rcases h1 with h1 | h1
        · rw [e1]; exact h.dis n m i h1 h2
        · have := old m h2; omega
    · by_cases e2 : m = n
      · simp only [if_neg e1] at h1
        simp only [if_pos e2] at h2
        rcases h2 with h2 | h2
        · rw [e2]; exact h.dis k n i h1 h2
        · have := old k h1; omega
      · simp only [if_neg e1] at h1
        simp only [if_neg e2] at h2
        exact h.dis k m i h1 h2
/-- What a transaction waits for is laid. -/
theorem Tx.wait (h : Tx w F t a b N T fq gq Fn) {f : Int → Option Value} {M : Nat} (hM : N ≤ M) {wt' : Int → Option Nm} (hm : Mp w' Tryd.prog 3 b M (keyI f)) (hf : ∀ y, f y = (wt' y).map nV) (hg : w.grownBy w' (some b)) :
    Tx w' F t a b M ⟨T.qs, wt'⟩ fq gq Fn := by
  have un : ∀ i, i < w.heap.size → i ≠ b → w'.heap[i]? = w.heap[i]? := fun i hi hne => hg.block i hi fun e => hne (Option.some.inj e)
  have tb : t ≠ b := fun e => by
    have := h.mw.ne_bk h.bk
    exact this e.symm
  exact ⟨(un t h.bk.lt tb).trans h.bk, h.ft, h.fa, h.fb, fun i hi => Nat.lt_of_lt_of_le (h.bd i hi) hg.size, h.nr, (h.mq.mono hM).of_block (un a h.mq.lt h.ab), h.hq, h.wf, hm.congr (by congr 1; funext y; exact hf y), fun n q hq => by
    obtain ⟨v1, v2, v3, hm2⟩ := h.qm n q hq
    exact ⟨v1, v2, v3, hm2.same fun i hi hlt => un i hlt (h.sub n i hi).2.2.2⟩, h.sub, h.dis, by
    have hb : 0 ≠ b := fun e => h.nr (by rw [e]; exact h.fb)
    have := un 0 h.tab.1 hb
    exact ⟨Nat.lt_of_lt_of_le h.tab.1 hg.size, fun i hi => by rw [World.cell?_of_block (w := w) this]; exact h.tab.2 i hi⟩, h.ab⟩
/-- A queue is laid, or taken out. -/
theorem Tx.laid (h : Tx w F t a b N T fq gq Fn) {fq' : Lit → Option Value} {M : Nat} (hM : N ≤ M) {n : Nm} (hn : n.wf) {g : Nat} {o : Option Que} (hm : Mp w' Tryd.prog 27 a M fq') (hf : ∀ k, k.wf → fq' (nk k) = if k = n then o.map (fun _ => ptr g) else fq (nk k)) (hg : w.grownBy w' (some a))
    (Fg : Nat → Prop) (hq : ∀ q, o = some q → ∃ vh ve vw, Qm w' Fg g vh ve vw q) (hFg : ∀ i, Fg i → i < w'.heap.size ∧ i ≠ t ∧ i ≠ a ∧ i ≠ b ∧ i ≠ 0 ∧ ∀ k, k ≠ n → ¬ Fn k i) :
    Tx w' (fun i => F i ∨ Fg i) t a b M ⟨fun k => if k = n then o else T.qs k, T.wt⟩ fq' (fun k => if k = n then g else gq k) (fun k => if k = n then Fg else Fn k) := by
  have un : ∀ i, i < w.heap.size → i ≠ a → w'.heap[i]? = w.heap[i]? := fun i hi hne => hg.block i hi fun e => hne (Option.some.inj e)
  have ta : t ≠ a := fun e => h.mq.ne_bk h.bk e.symm
  have hr : 0 ≠ a := fun e => h.nr (by rw [e]; exact h.fa)
  refine ⟨(un t h.bk.lt ta).trans h.bk, .inl h.ft, .inl h.fa, .inl h.fb, fun i hi => ?_, fun hi => ?_, hm, fun k hk => ?_, fun k p hp => ?_, (h.mw.mono hM).of_block (un b h.mw.lt fun e => h.ab e.symm), fun k p hp => ?_, fun k i hi => ?_, fun k m i h1 h2 => ?_, ?_, h.ab⟩
  · rcases hi with hi | hi
    · exact Nat.lt_of_lt_of_le (h.bd i hi) hg.size
    · exact (hFg i hi).1
  · rcases hi with hi | hi
    · exact h.nr hi
    · exact (hFg _ hi).2.2.2.2.1 rfl
  · rw [hf k hk]
    by_cases e : k = n
    · simp only [if_pos e]
    · simp only [if_neg e]; exact h.hq k hk
  · by_cases e : k = n
    · rw [e]; exact hn
    · simp only [if_neg e] at hp; exact h.wf k p hp
  · by_cases e : k = n
    · simp only [if_pos e] at hp ⊢
      exact hq p hp
    · simp only [if_neg e] at hp ⊢
      obtain ⟨v1, v2, v3, hm2⟩ := h.qm k p hp
      exact ⟨v1, v2, v3, hm2.same fun i hi hlt => un i hlt (h.sub k i hi).2.2.1⟩
  · by_cases e : k = n
    · simp only [if_pos e] at hi
      exact ⟨.inr hi, (hFg i hi).2.1, (hFg i hi).2.2.1, (hFg i hi).2.2.2.1⟩
    · simp only [if_neg e] at hi
      exact ⟨.inl (h.sub k i hi).1, (h.sub k i hi).2⟩
  · by_cases e1 : k = n
    · by_cases e2 : m = n
      · rw [e1, e2]
      · simp only [if_pos e1] at h1
        simp only [if_neg e2] at h2
        exact absurd h2 ((hFg i h1).2.2.2.2.2 m e2)
    · by_cases e2 : m = n
      · simp only [if_neg e1] at h1
        simp only [if_pos e2] at h2
        exact absurd h1 ((hFg i h2).2.2.2.2.2 k e1)
      · simp only [if_neg e1] at h1
        simp only [if_neg e2] at h2
        exact h.dis k m i h1 h2
  · have := un 0 h.tab.1 hr
    exact ⟨Nat.lt_of_lt_of_le h.tab.1 hg.size, fun i hi => by rw [World.cell?_of_block (w := w) this]; exact h.tab.2 i hi⟩
end
end Go.Proofs.YtnpnpkaklamboaaDoor
