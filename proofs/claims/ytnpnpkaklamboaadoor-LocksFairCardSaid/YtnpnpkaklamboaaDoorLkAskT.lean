/- (*Table).Ask. -/
import Derived.Test.YtnpnpkaklamboaaDoorLkTab
set_option linter.unusedVariables false
set_option linter.unusedSimpArgs false
namespace Go.Proofs.YtnpnpkaklamboaaDoor
open Go.RowKit Go.Shelf Go.Maps

theorem Tx.wide {w : World} {F G : Nat → Prop} {t a b N : Nat} {T : Tbl} {fq : Lit → Option Value} {gq : Nm → Nat} {Fn : Nm → Nat → Prop} (h : Tx w F t a b N T fq gq Fn) (hG : ∀ i, F i → G i) (hb : ∀ i, G i → i < w.heap.size) (hr : ¬ G 0) : Tx w G t a b N T fq gq Fn :=
  { h with ft := hG t h.ft, fa := hG a h.fa, fb := hG b h.fb, bd := hb, nr := hr, sub := fun n i hi => ⟨hG i (h.sub n i hi).1, (h.sub n i hi).2⟩ }
theorem Tx.as {w : World} {F : Nat → Prop} {t a b N : Nat} {T T' : Tbl} {fq : Lit → Option Value} {gq : Nm → Nat} {Fn : Nm → Nat → Prop} (h : Tx w F t a b N T fq gq Fn) (e1 : ∀ k, T'.qs k = T.qs k) (e2 : ∀ y, T'.wt y = T.wt y) : Tx w F t a b N T' fq gq Fn := by
  have : T' = T := by
    cases T; cases T'
    simp only [Tbl.mk.injEq]
    exact ⟨funext e1, funext e2⟩
  rw [this]
  exact h
def AtPost (w : World) (F : Nat → Prop) (t N : Nat) (T : Tbl) (ok : Bool) (e : Ending) (w' : World) : Prop := e = .returned (.tuple #[.bool ok, .int .i64 0]) ∧ Kpf F w w' ∧ Tm w' (Ext F w w') t N T
set_option maxRecDepth 100000 in
set_option maxHeartbeats 1000000 in
theorem askt_arg {w : World} {t : Nat} (x m : Int) (n : Nm) (hm : m ≤ 0 ∨ 6 < m) : Calls Tryd.prog 12 #[ptr t, .int .i64 x, .agg #[.int .i64 n.s, .string n.t], .int .i64 m] w fun e w' => e = .returned (.tuple #[.bool false, .int .i64 1]) ∧ Below w.heap.size w w' := by
  have B := Lib.hid ((Below.refl w.heap.size w).alloc (Nat.le_refl _) (.cells #[.int .i64 n.s, .string n.t] 27))
  rcases hm with hm | hm
  · go_enter Tryd.func12, Tryd.ntmps12
    go_wp2
    go_ret2
    exact ⟨rfl, B.out⟩
  · have hm2 : ¬ m ≤ 0 := by omega
    go_enter Tryd.func12, Tryd.ntmps12
    go_wp2
    go_ret2
    exact ⟨rfl, B.out⟩
set_option maxRecDepth 100000 in
set_option maxHeartbeats 1000000 in
theorem askt_busy {w : World} {F : Nat → Prop} {t N : Nat} {T : Tbl} (h : Tm w F t N T) (x m : Int) (hx : -9223372036854775808 ≤ x ∧ x ≤ 9223372036854775807) (n : Nm) (hm1 : 0 < m) (hm2 : m ≤ 6) (hw : (T.wt x).isSome = true) : Calls Tryd.prog 12 #[ptr t, .int .i64 x, .agg #[.int .i64 n.s, .string n.t], .int .i64 m] w fun e w' => e = .returned (.tuple #[.bool false, .int .i64 211]) ∧ Below w.heap.size w w' := by
  have B := Lib.hid ((Below.refl w.heap.size w).alloc (Nat.le_refl _) (.cells #[.int .i64 n.s, .string n.t] 27))
  have WT := Lib.hid (waiting_any (h.kept B.out) x hx)
  rw [hw] at WT
  have g1 : ¬ m ≤ 0 := by omega
  have g2 : ¬ 6 < m := by omega
  clear h hm1 hm2 hw hx
  go_enter Tryd.func12, Tryd.ntmps12
  go_wp2_with fail
  refine WT.out.mono ?_
  rintro e w2 ⟨rfl, hb⟩
  have B2 := Lib.hid (B.out.trans (hb.mono B.out.size))
  clear hb WT
  go_wp2
  go_ret2
  exact ⟨rfl, B2.out⟩
set_option maxRecDepth 100000 in
set_option maxHeartbeats 8000000 in
theorem askt_any {w : World} {F : Nat → Prop} {t C N : Nat} {T : Tbl} (h : Tm w F t C T) (hok : T.ok cpN) (hfew : T.few N) (hbd : T.bd) (hC : C ≤ 90000) (hN : N ≤ 90000) (x : Int) (hx : -9223372036854775808 ≤ x ∧ x ≤ 9223372036854775807) (n : Nm) (hn : n.wf) (m : Nat) (hm1 : 0 < m) (hm2 : m ≤ 6) (hw : T.wt x = none) :
    Calls Tryd.prog 12 #[ptr t, .int .i64 x, .agg #[.int .i64 n.s, .string n.t], .int .i64 (m : Int)] w (AtPost w F t (C + 2) (T.asked cpN jnN x n m) ((T.q n).ask cpN jnN x m).2) := by
  have B := Lib.hid ((Below.refl w.heap.size w).alloc (Nat.le_refl _) (.cells #[.int .i64 n.s, .string n.t] 27))
  have KN := Lib.hid (show Bk (w.alloc (.cells #[.int .i64 n.s, .string n.t] 27)) w.heap.size 27 #[.int .i64 n.s, .string n.t] from Bk.new w _ _)
  have FK := Lib.hid (show ¬ F w.heap.size from fun e => by have := h.lt _ e; omega)
  have WT := Lib.hid (waiting_any (h.kept B.out) x hx)
  rw [show (T.wt x).isSome = false by rw [hw]; rfl] at WT
  obtain ⟨a, b, fq, gq, Fn, h0⟩ := h
  have HX := Lib.hid (h0.kept B.out)
  have NRF := Lib.hid h0.nr
  have RLT := Lib.hid h0.tab.1
  have FLT := Lib.hid h0.bd
  obtain ⟨K, hK⟩ : ∃ K, K = w.heap.size := ⟨_, rfl⟩
  have HK := Lib.hid hK
  rw [← hK] at KN FK
  have HN := Lib.hid hn
  have HXX := Lib.hid hx
  have NN := Lib.hid (show N ≤ 100000 by omega)
  have NM := Lib.hid (show C < maxLen by unfold maxLen; omega)
  have CC := Lib.hid hC
  have M6 := Lib.hid hm2
  have SO := Lib.hid (hok.at_ n).1.so
  have BD := Lib.hid (hbd.at_ n)
  have FW := Lib.hid (hfew.at_ n)
  have g1 : ¬ (m : Int) ≤ 0 := by omega
  have g2 : ¬ 6 < (m : Int) := by omega
  clear h0 hK hn hx hN hC hm1 hm2 hok hbd hfew hw
  generalize hpost : AtPost w F t (C + 2) (T.asked cpN jnN x n m) ((T.q n).ask cpN jnN x m).2 = PO
  have HP := Lib.hid hpost
  clear hpost
  go_enter Tryd.func12, Tryd.ntmps12
  go_upto_region 1 with fail
  rw [← HK.out]
  generalize w.alloc (.cells #[.int .i64 n.s, .string n.t] 27) = w1 at *
  go_wp2_with fail
  refine WT.out.mono ?_
  rintro e w2 ⟨rfl, hb2⟩
  have HX2 := Lib.hid (HX.out.kept hb2)
  have KN2 := Lib.hid (KN.out.kept hb2)
  have B2 := Lib.hid (B.out.trans (hb2.mono B.out.size))
  clear hb2 WT HX KN B g1 g2
  have y0 := fun x : Kp w2 => show x.1.cell? ⟨t, 0, none⟩ = some (.map (some a)) from x.cell (HX2.out.bk.cell 0)
  have y1 := fun x : Kp w2 => show x.1.cell? ⟨K, 0, none⟩ = some (.int .i64 n.s) from x.cell (KN2.out.cell 0)
  have y2 := fun x : Kp w2 => show x.1.cell? ⟨K, 1, none⟩ = some (.string n.t) from x.cell (KN2.out.cell 1)
  have lk := fun x : Kp w2 => (HX2.out.kept x.2).look HN.out
  go_upto_region 5 with fail
  cases hq : T.qs n with
  | some q =>
    simp only [hq, Option.map_some, Option.getD_some] at lk
    have HQ := Lib.hid hq
    have QE := Lib.hid (Tbl.q_some hq)
    clear hq
    refine wp_region_kept (by kernel_rfl) (by kernel_rfl) ?_
    repeat (first
      | go_big_quiet_skip
      | (go_big_quiet_want; go_big_quiet_op; first | go_big_quiet_on))
    refine wpQuiet_nil ?_
    rintro _ ⟨x5, rfl⟩
    have B5 := Lib.hid x5.2
    generalize x5.1 = w5 at B5 ⊢
    clear x5
    have HX5 := Lib.hid (show Tx w5 F t a b C T fq gq Fn from HX2.out.kept B5.out)
    obtain ⟨vh5, ve5, vw5, qm5⟩ := HX5.out.qm n q HQ.out
    have QM5 := Lib.hid (show Qm w5 (Fn n) (gq n) vh5 ve5 vw5 (T.q n) from by rw [QE.out]; exact qm5)
    have KW5 := Lib.hid (Kpf.of_below (F := F) (B2.out.trans (B5.out.mono B2.out.size)))
    have FE5 := Lib.hid (show ∀ i, F i → Ext F w w5 i from fun i hi => .inl hi)
    have KNB5 := Lib.hid (KN2.out.kept B5.out)
    have NK5 := Lib.hid (show ¬ Fn n K from fun e => FK.out (HX5.out.sub n K e).1)
    have TQ5 := Lib.hid (show T.qs n = some (T.q n) from by rw [QE.out]; exact HQ.out)
    have T1Q := Lib.hid (show ∀ k, k ≠ n → T.qs k = T.qs k from fun k _ => rfl)
    have T1W := Lib.hid (show ∀ y, T.wt y = T.wt y from fun y => rfl)
    have ML := Lib.hid (show C ≤ C + 2 by omega)
    have MLS := Lib.hid (show C + 1 ≤ C + 2 by omega)
    clear qm5 KN2 HX2 B2 B5 lk y0 y1 y2
    obtain ⟨g, hg⟩ : ∃ g, g = gq n := ⟨_, rfl⟩
    have G := Lib.hid hg
    rw [← hg] at QM5 ⊢
    clear hg
    have AK := Lib.hid (ask_any QM5.out HX5.out.tab BD.out SO.out FW.out NN.out x m M6.out)
    as_aux_lemma =>
      go_wp2_with fail
      refine AK.out.mono ?_
      rintro e w6 ⟨rfl, kp6, vh6, ve6, vw6, qm6⟩
      have HX6 := Lib.hid (HX5.out.turn TQ5.out kp6 (by rw [← G.out]; exact qm6))
      have KN6 := Lib.hid (kp6.bk KNB5.out NK5.out)
      have KW6 := Lib.hid (KW5.out.trans kp6 fun i hi => by
        rcases FE5.out i (HX5.out.sub n i hi).1 with h | h
        · exact .inl h
        · exact .inr h.1)
      have FE6 := Lib.hid (show ∀ i, Ext F w5 w6 i → Ext F w w6 i from fun i hi => by
        rcases hi with hi | hi
        · exact ext_more kp6.size (FE5.out i hi)
        · exact .inr ⟨Nat.le_trans KW5.out.size hi.1, hi.2⟩)
      clear kp6 qm6 AK HX5 QM5 KNB5 NK5 KW5 FE5
      have FIN := Lib.hid (fun (wz : World) (hk : Kpf F w wz) (hx : ∃ fz gz Fz Gz Mz, Tx wz Gz t a b Mz (T.asked cpN jnN x n m) fz gz Fz ∧ Mz ≤ C + 2 ∧ ∀ i, Gz i → Ext F w wz i) => show Tm wz (Ext F w wz) t (C + 2) (T.asked cpN jnN x n m) from by
        obtain ⟨fz, gz, Fz, Gz, Mz, h1, h2, h3⟩ := hx
        exact Tm.mono ⟨a, b, fz, gz, Fz, h1.wide h3 (fun i hi => by
          rcases hi with hi | hi
          · exact Nat.lt_of_lt_of_le (FLT.out i hi) hk.size
          · exact hi.2) (fun hi => by
          rcases hi with hi | hi
          · exact NRF.out hi
          · have := RLT.out; omega)⟩ h2)
      obtain ⟨ok, hok⟩ : ∃ ok, ok = ((T.q n).ask cpN jnN x m).2 := ⟨_, rfl⟩
      have OK := Lib.hid hok
      rw [← hok] at HP ⊢
      clear hok
      cases ok with
      | true =>
        go_wp2
        rw [← HP.out]
        refine ⟨rfl, KW6.out, FIN.out _ KW6.out ⟨_, _, _, _, _, HX6.out.as (fun k => ?_) (fun y => ?_), ML.out, FE6.out⟩⟩
        · show (if k = n then _ else _) = (if k = n then _ else _)
          by_cases e : k = n
          · simp only [if_pos e]
          · first | (simp only [if_neg e]; done) | (simp only [if_neg e]; exact (T1Q.out k e).symm)
        · show (if y = x ∧ _ then _ else _) = _
          first | (rw [← OK.out, if_neg (by rintro ⟨_, h⟩; cases h)]; done) | (rw [← OK.out, if_neg (by rintro ⟨_, h⟩; cases h)]; exact (T1W.out y).symm)
      | false =>
        have HX6d := Lib.hid (show Tx w6.drew _ t a b _ _ _ _ _ from HX6.out.kept ⟨rfl, rfl, rfl, Nat.le_refl _, fun _ _ => rfl⟩)
        obtain ⟨w7, hst, mp7, gr7⟩ := HX6d.out.mw.store int_keyed9 Tryd.underlying52 (Nat.lt_of_le_of_lt ML.out (by unfold maxLen; have := CC.out; omega)) (nV n) (keyOf_int_mk Tryd.underlying3 (wf_int HXX.out))
        have z1 : w6.cell? ⟨t, 1, none⟩ = some (.map (some b)) := HX6.out.bk.cell 1
        have z2 : w6.cell? ⟨K, 0, none⟩ = some (.int .i64 n.s) := KN6.out.cell 0
        have z3 : w6.cell? ⟨K, 1, none⟩ = some (.string n.t) := KN6.out.cell 1
        rw [keyI_put] at mp7
        have HX7 := Lib.hid (HX6d.out.wait (N := _) (Nat.le_succ _) mp7 (wt' := fun y => if y = x then some n else T.wt y) (fun y => by
          by_cases e : y = x
          · rw [if_pos e]; simp [e]
          · simp [e, T1W.out]) gr7)
        have KW7 := Lib.hid (KW6.out.trans (w' := w6) (G := fun i => i = b) ⟨gr7.os, gr7.tape, gr7.output, gr7.size, fun i hi hn => gr7.block i hi fun e => hn (Option.some.inj e)⟩ fun i hi => by
          rcases FE6.out b HX6.out.fb with h | h
          · exact .inl (by rw [hi]; exact h)
          · exact .inr (by rw [hi]; exact h.1))
        have S7 := Lib.hid (show w6.heap.size ≤ w7.heap.size from gr7.size)
        clear mp7 gr7 HX6d HX6 KN6 KW6
        go_wp2_with fail
        go_region
        clear hst z1 z2 z3
        go_wp2
        rw [← HP.out]
        refine ⟨rfl, KW7.out, FIN.out _ KW7.out ⟨_, _, _, _, _, HX7.out.as (fun k => ?_) (fun y => ?_), MLS.out, fun i hi => ext_more S7.out (FE6.out i hi)⟩⟩
        · show (if k = n then _ else _) = (if k = n then _ else _)
          by_cases e : k = n
          · simp only [if_pos e]
          · first | (simp only [if_neg e]; done) | (simp only [if_neg e]; exact (T1Q.out k e).symm)
        · show (if y = x ∧ _ then _ else _) = (if y = x then _ else _)
          rw [← OK.out]
          by_cases e : y = x
          · rw [if_pos ⟨e, rfl⟩, if_pos e]
          · rw [if_neg (fun h => e h.1), if_neg e]
  | none =>
    simp only [hq, Option.map_none, Option.getD_none] at lk
    have HQ := Lib.hid hq
    have QE := Lib.hid (Tbl.q_none hq)
    clear hq
    refine wp_region_kept (by kernel_rfl) (by kernel_rfl) ?_
    repeat (first
      | go_big_quiet_skip
      | (go_big_quiet_want; go_big_quiet_op; first | go_big_quiet_on))
    refine wpQuiet_nil ?_
    rintro _ ⟨x5, rfl⟩
    have B5 := Lib.hid x5.2
    generalize x5.1 = w5 at B5 ⊢
    clear x5
    have HX4 := Lib.hid (show Tx w5 F t a b C T fq gq Fn from HX2.out.kept B5.out)
    have KW4 := Lib.hid (B2.out.trans (B5.out.mono B2.out.size))
    have KN4 := Lib.hid (KN2.out.kept B5.out)
    clear KN2 HX2 B2 B5 lk y0 y1 y2
    obtain ⟨g, hg⟩ : ∃ g, g = w5.heap.size := ⟨_, rfl⟩
    have HG := Lib.hid hg
    have ba := (Below.refl w5.heap.size w5).alloc (Nat.le_refl _) (.cells #[.slice none 0 0, .slice none 0 0, .slice none 0 0] 61)
    have GB := Lib.hid (show Bk (w5.alloc (.cells #[.slice none 0 0, .slice none 0 0, .slice none 0 0] 61)) g 61 #[.slice none 0 0, .slice none 0 0, .slice none 0 0] from by rw [hg]; exact Bk.new w5 _ _)
    have HX4a := Lib.hid (HX4.out.kept ba)
    have KN4a := Lib.hid (KN4.out.kept ba)
    have KW4a := Lib.hid (KW4.out.trans (ba.mono KW4.out.size))
    have GO := Lib.hid (show (∀ i, F i → i < g) ∧ t < g ∧ a < g ∧ b < g ∧ 0 < g ∧ K < g ∧ w.heap.size ≤ g from by rw [hg]; exact ⟨HX4.out.bd, HX4.out.bk.lt, HX4.out.mq.lt, HX4.out.mw.lt, HX4.out.tab.1, KN4.out.lt, KW4.out.size⟩)
    clear ba HX4 KN4 KW4 hg
    go_upto_region 8 with fail
    rw [← HG.out]
    generalize w5.alloc (.cells #[.slice none 0 0, .slice none 0 0, .slice none 0 0] 61) = w4 at *
    clear HG
    have HX4d := Lib.hid (show Tx w4.drew F t a b C T fq gq Fn from HX4a.out.kept ⟨rfl, rfl, rfl, Nat.le_refl _, fun _ _ => rfl⟩)
    obtain ⟨w5, hst, mp5, gr5⟩ := HX4d.out.mq.store nm_keyed Tryd.underlying51 NM.out (ptr g) (nk_of HN.out)
    have z1 : w4.cell? ⟨t, 0, none⟩ = some (.map (some a)) := HX4a.out.bk.cell 0
    have z2 : w4.cell? ⟨K, 0, none⟩ = some (.int .i64 n.s) := KN4a.out.cell 0
    have z3 : w4.cell? ⟨K, 1, none⟩ = some (.string n.t) := KN4a.out.cell 1
    have gne : g ≠ a := by have := GO.out.2.2.1; omega
    have GB5 := Lib.hid (GB.out.drew.grown gr5 (fun e => gne (Option.some.inj e)))
    have LAID := Lib.hid (HX4d.out.laid (M := C + 1) (Nat.le_succ _) HN.out (o := some Que.nil) (g := g) mp5 (fun k hk => by
      unfold fput
      rw [nk_same hk HN.out]
      by_cases e : k = n
      · simp [e]
      · simp [e]) gr5 (fun i => i = g) (fun q hq => by
      injection hq with hq
      subst hq
      exact ⟨.slice none 0 0, .slice none 0 0, .slice none 0 0, rfl, GB5.out, Rk.nil _ _ _ _ _, Rk.nil _ _ _ _ _, Rk.nil _ _ _ _ _⟩) (fun i hi => by
      subst hi
      obtain ⟨o1, o2, o3, o4, o5, o6, o7⟩ := GO.out
      exact ⟨GB5.out.lt, by omega, by omega, by omega, by omega, fun k hk hf => by have := o1 _ (HX4d.out.sub k _ hf).1; omega⟩))
    have KW5 := Lib.hid ((Kpf.of_below (F := F) KW4a.out).trans (w' := w4) (G := fun i => i = a) (w'' := w5) ⟨gr5.os, gr5.tape, gr5.output, gr5.size, fun i hi hn => gr5.block i hi fun e => hn (Option.some.inj e)⟩ fun i hi => by subst hi; exact .inl HX4a.out.fa)
    have KNB5 := Lib.hid (KN4a.out.drew.grown gr5 (fun e => by
      have e := Option.some.inj e
      exact HX4a.out.mq.ne_bk KN4a.out e.symm))
    have FE5 := Lib.hid (show ∀ i, (F i ∨ i = g) → Ext F w w5 i from fun i hi => by
      rcases hi with hi | hi
      · exact .inl hi
      · subst hi; exact .inr ⟨GO.out.2.2.2.2.2.2, GB5.out.lt⟩)
    have KG := Lib.hid (show K ≠ g by have := GO.out.2.2.2.2.2.1; omega)
    clear mp5 gr5
    go_region
    clear hst z1 z2 z3 gne HX4d HX4a KN4a KW4a GB GO
    obtain ⟨fq5, gq5, Fn5, T5, hT5, hT5w, hF5, hg5, HX5⟩ : ∃ (fq5 : Lit → Option Value) (gq5 : Nm → Nat) (Fn5 : Nm → Nat → Prop) (T5 : Tbl), (∀ k, T5.qs k = if k = n then some Que.nil else T.qs k) ∧ T5.wt = T.wt ∧ (∀ i, Fn5 n i ↔ i = g) ∧ gq5 n = g ∧ Hid (Tx w5 (fun i => F i ∨ i = g) t a b (C + 1) T5 fq5 gq5 Fn5) := ⟨fput fq (nk n) (ptr g), (fun k => if k = n then g else gq k), (fun k => if k = n then (fun i => i = g) else Fn k), ⟨fun k => if k = n then some Que.nil else T.qs k, T.wt⟩, fun k => rfl, rfl, fun i => by simp, by simp, LAID⟩
    clear LAID
    have QM5 := Lib.hid (show Qm w5 (Fn5 n) g (.slice none 0 0) (.slice none 0 0) (.slice none 0 0) (T.q n) from by rw [QE.out]; exact ⟨(hF5 g).2 rfl, GB5.out, Rk.nil _ _ _ _ _, Rk.nil _ _ _ _ _, Rk.nil _ _ _ _ _⟩)
    have G := Lib.hid hg5.symm
    have NK5 := Lib.hid (show ¬ Fn5 n K from fun e => KG.out ((hF5 K).1 e))
    have TQ5 := Lib.hid (show T5.qs n = some (T.q n) from by rw [hT5, if_pos rfl, QE.out])
    have T1Q := Lib.hid (show ∀ k, k ≠ n → T5.qs k = T.qs k from fun k hk => by rw [hT5, if_neg hk])
    have T1W := Lib.hid (show ∀ y, T5.wt y = T.wt y from fun y => by rw [hT5w])
    have ML := Lib.hid (show C + 1 ≤ C + 2 by omega)
    have MLS := Lib.hid (show C + 1 + 1 ≤ C + 2 by omega)
    clear hT5 hT5w hF5 hg5 GB5 KG
    have AK := Lib.hid (ask_any QM5.out HX5.out.tab BD.out SO.out FW.out NN.out x m M6.out)
    as_aux_lemma =>
      go_wp2_with fail
      refine AK.out.mono ?_
      rintro e w6 ⟨rfl, kp6, vh6, ve6, vw6, qm6⟩
      have HX6 := Lib.hid (HX5.out.turn TQ5.out kp6 (by rw [← G.out]; exact qm6))
      have KN6 := Lib.hid (kp6.bk KNB5.out NK5.out)
      have KW6 := Lib.hid (KW5.out.trans kp6 fun i hi => by
        rcases FE5.out i (HX5.out.sub n i hi).1 with h | h
        · exact .inl h
        · exact .inr h.1)
      have FE6 := Lib.hid (show ∀ i, Ext (fun i => F i ∨ i = g) w5 w6 i → Ext F w w6 i from fun i hi => by
        rcases hi with hi | hi
        · exact ext_more kp6.size (FE5.out i hi)
        · exact .inr ⟨Nat.le_trans KW5.out.size hi.1, hi.2⟩)
      clear kp6 qm6 AK HX5 QM5 KNB5 NK5 KW5 FE5
      have FIN := Lib.hid (fun (wz : World) (hk : Kpf F w wz) (hx : ∃ fz gz Fz Gz Mz, Tx wz Gz t a b Mz (T.asked cpN jnN x n m) fz gz Fz ∧ Mz ≤ C + 2 ∧ ∀ i, Gz i → Ext F w wz i) => show Tm wz (Ext F w wz) t (C + 2) (T.asked cpN jnN x n m) from by
        obtain ⟨fz, gz, Fz, Gz, Mz, h1, h2, h3⟩ := hx
        exact Tm.mono ⟨a, b, fz, gz, Fz, h1.wide h3 (fun i hi => by
          rcases hi with hi | hi
          · exact Nat.lt_of_lt_of_le (FLT.out i hi) hk.size
          · exact hi.2) (fun hi => by
          rcases hi with hi | hi
          · exact NRF.out hi
          · have := RLT.out; omega)⟩ h2)
      obtain ⟨ok, hok⟩ : ∃ ok, ok = ((T.q n).ask cpN jnN x m).2 := ⟨_, rfl⟩
      have OK := Lib.hid hok
      rw [← hok] at HP ⊢
      clear hok
      cases ok with
      | true =>
        go_wp2
        rw [← HP.out]
        refine ⟨rfl, KW6.out, FIN.out _ KW6.out ⟨_, _, _, _, _, HX6.out.as (fun k => ?_) (fun y => ?_), ML.out, FE6.out⟩⟩
        · show (if k = n then _ else _) = (if k = n then _ else _)
          by_cases e : k = n
          · simp only [if_pos e]
          · first | (simp only [if_neg e]; done) | (simp only [if_neg e]; exact (T1Q.out k e).symm)
        · show (if y = x ∧ _ then _ else _) = _
          first | (rw [← OK.out, if_neg (by rintro ⟨_, h⟩; cases h)]; done) | (rw [← OK.out, if_neg (by rintro ⟨_, h⟩; cases h)]; exact (T1W.out y).symm)
      | false =>
        have HX6d := Lib.hid (show Tx w6.drew _ t a b _ _ _ _ _ from HX6.out.kept ⟨rfl, rfl, rfl, Nat.le_refl _, fun _ _ => rfl⟩)
        obtain ⟨w7, hst, mp7, gr7⟩ := HX6d.out.mw.store int_keyed9 Tryd.underlying52 (Nat.lt_of_le_of_lt ML.out (by unfold maxLen; have := CC.out; omega)) (nV n) (keyOf_int_mk Tryd.underlying3 (wf_int HXX.out))
        have z1 : w6.cell? ⟨t, 1, none⟩ = some (.map (some b)) := HX6.out.bk.cell 1
        have z2 : w6.cell? ⟨K, 0, none⟩ = some (.int .i64 n.s) := KN6.out.cell 0
        have z3 : w6.cell? ⟨K, 1, none⟩ = some (.string n.t) := KN6.out.cell 1
        rw [keyI_put] at mp7
        have HX7 := Lib.hid (HX6d.out.wait (N := _) (Nat.le_succ _) mp7 (wt' := fun y => if y = x then some n else T.wt y) (fun y => by
          by_cases e : y = x
          · rw [if_pos e]; simp [e]
          · simp [e, T1W.out]) gr7)
        have KW7 := Lib.hid (KW6.out.trans (w' := w6) (G := fun i => i = b) ⟨gr7.os, gr7.tape, gr7.output, gr7.size, fun i hi hn => gr7.block i hi fun e => hn (Option.some.inj e)⟩ fun i hi => by
          rcases FE6.out b HX6.out.fb with h | h
          · exact .inl (by rw [hi]; exact h)
          · exact .inr (by rw [hi]; exact h.1))
        have S7 := Lib.hid (show w6.heap.size ≤ w7.heap.size from gr7.size)
        clear mp7 gr7 HX6d HX6 KN6 KW6
        go_wp2_with fail
        go_region
        clear hst z1 z2 z3
        go_wp2
        rw [← HP.out]
        refine ⟨rfl, KW7.out, FIN.out _ KW7.out ⟨_, _, _, _, _, HX7.out.as (fun k => ?_) (fun y => ?_), MLS.out, fun i hi => ext_more S7.out (FE6.out i hi)⟩⟩
        · show (if k = n then _ else _) = (if k = n then _ else _)
          by_cases e : k = n
          · simp only [if_pos e]
          · first | (simp only [if_neg e]; done) | (simp only [if_neg e]; exact (T1Q.out k e).symm)
        · show (if y = x ∧ _ then _ else _) = (if y = x then _ else _)
          rw [← OK.out]
          by_cases e : y = x
          · rw [if_pos ⟨e, rfl⟩, if_pos e]
          · rw [if_neg (fun h => e h.1), if_neg e]
end Go.Proofs.YtnpnpkaklamboaaDoor
