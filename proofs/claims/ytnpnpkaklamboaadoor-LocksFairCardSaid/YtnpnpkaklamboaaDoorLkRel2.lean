/- (*Table).Release. -/
import Derived.Test.YtnpnpkaklamboaaDoorLkRel
set_option linter.unusedVariables false
set_option linter.unusedSimpArgs false
namespace Go.Proofs.YtnpnpkaklamboaaDoor
open Go.RowKit Go.Shelf Go.Maps

theorem Mp.drop {w : World} {P : Program} {k : TypeId} {b n : Nat} {f : Lit → Option Value} {t e : TypeId} (h : Mp w P k b n f) (K : Keyed P k) (ht : P.underlying t = some (.map k e)) {key : Value} {kl : Lit} (hkey : keyOf P k key = some kl) (ty : TypeId) :
    ∃ w', (Builtin.delete_ #[t, k] ty #[.map (some b), key]).run P w = .ok (.tuple #[]) w' ∧ Mp w' P k b n (fdel f kl) ∧ w.grownBy w' (some b) := by
  obtain ⟨D, h, d⟩ := h
  obtain ⟨w', h1, h2, h3⟩ := h.drop K ht hkey ty
  exact ⟨w', h1, ⟨_, h2, d.del (K.key hkey)⟩, h3.grown⟩
theorem MpR.drop {w : World} {P : Program} {k : TypeId} {b r n cnt : Nat} {f : Lit → Option Value} {left : Lit → Bool} {t e : TypeId} (h : MpR w P k b r n f left cnt) (K : Keyed P k) (ht : P.underlying t = some (.map k e)) {key : Value} {kl : Lit} (hkey : keyOf P k key = some kl) (ty : TypeId) :
    ∃ w' cnt', (Builtin.delete_ #[t, k] ty #[.map (some b), key]).run P w = .ok (.tuple #[]) w' ∧ MpR w' P k b r n (fdel f kl) (fun z => left z && !z.sameKey kl) cnt' ∧ cnt' ≤ cnt ∧ w.grownBy w' (some b) := by
  obtain ⟨D, h, d⟩ := h
  obtain ⟨w', cnt', h1, h2, h3, h4⟩ := h.drop K ht hkey ty
  exact ⟨w', cnt', h1, ⟨D.del kl, h2, d.del (K.key hkey)⟩, h3, h4.grown⟩
theorem give1_len {cp : Nat → Nat → Bool} : ∀ (k : Nat) (q : Que), (q.give1 cp k).2.length ≤ k ∧ (q.give1 cp k).1.ws = q.ws
  | 0, q => ⟨Nat.le_refl _, rfl⟩
  | k + 1, q => by
    unfold Que.give1
    cases e : q.ripe cp with
    | none => exact ⟨Nat.zero_le _, rfl⟩
    | some x =>
      have := give1_len (cp := cp) k (q.grantX x)
      exact ⟨by simp only [List.length_cons]; omega, this.2⟩
theorem give2_len {cp : Nat → Nat → Bool} : ∀ (k : Nat) (q : Que), (q.give2 cp k).2.length ≤ k
  | 0, q => Nat.le_refl _
  | k + 1, q => by
    unfold Que.give2
    cases e : q.ws with
    | nil => exact Nat.zero_le _
    | cons p l =>
      dsimp only
      split
      · have := give2_len (cp := cp) k (q.headW p l)
        simp only [List.length_cons]
        omega
      · exact Nat.zero_le _
theorem give_len {cp : Nat → Nat → Bool} (q : Que) : (q.give cp).2.length ≤ q.eg.length + q.ws.length := by
  unfold Que.give
  dsimp only
  have h1 := give1_len (cp := cp) q.eg.length q
  have h2 := give2_len (cp := cp) (q.give1 cp q.eg.length).1.ws.length (q.give1 cp q.eg.length).1
  rw [List.length_append]
  rw [h1.2] at h2
  rw [h1.2]
  omega
def RlPost (w : World) (F : Nat → Prop) (t C : Nat) (T : Tbl) (e : Ending) (w' : World) : Prop := e = .returned (.tuple #[]) ∧ Kpf F w w' ∧ Tm w' (Ext F w w') t C T
set_option maxRecDepth 100000 in
set_option maxHeartbeats 16000000 in
theorem release_any {w : World} {F : Nat → Prop} {t C N : Nat} {T : Tbl} (h : Tm w F t C T) (hok : T.ok cpN) (hfew : T.few N) (hbd : T.bd) (hN : N ≤ 90000) (x : Int) (hx : -9223372036854775808 ≤ x ∧ x ≤ 9223372036854775807) :
    Calls Tryd.prog 11 #[ptr t, .int .i64 x] w (RlPost w F t C (T.release cpN x)) := by
  obtain ⟨a, b, fq, gq, Fn, h0⟩ := h
  have y1 : w.cell? ⟨t, 1, none⟩ = some (.map (some b)) := h0.bk.cell 1
  have H0 := Lib.hid h0
  have OK := Lib.hid hok
  have FW := Lib.hid hfew
  have BD := Lib.hid hbd
  have NN := Lib.hid hN
  have XX := Lib.hid hx
  have FIN := Lib.hid (fun (wz : World) (Fz : Nat → Prop) (fz : Lit → Option Value) (gz : Nm → Nat) (Gz : Nm → Nat → Prop) (hk : Kpf F w wz) (hfe : ∀ i, Fz i → Ext F w wz i) (hx : Tx wz Fz t a b C (T.release cpN x) fz gz Gz) => show RlPost w F t C (T.release cpN x) (.returned (.tuple #[])) wz from
    ⟨rfl, hk, a, b, fz, gz, Gz, hx.wide hfe (fun i hi => by
      rcases hi with hi | hi
      · exact Nat.lt_of_lt_of_le (h0.bd i hi) hk.size
      · exact hi.2) (fun hi => by
      rcases hi with hi | hi
      · exact h0.nr hi
      · have := h0.tab.1; omega)⟩)
  clear h0 hok hfew hbd hN hx
  generalize hpost : RlPost w F t C (T.release cpN x) = PO at *
  clear hpost
  go_enter Tryd.func11, Tryd.ntmps11
  obtain ⟨w1, hd1, hm1, hg1⟩ := H0.out.mw.drop int_keyed9 Tryd.underlying52 (keyOf_int_mk Tryd.underlying3 (wf_int XX.out)) 0
  go_upto_region 2 with fail
  rw [keyI_del] at hm1
  have H1 := Lib.hid (H0.out.wait (Nat.le_refl _) hm1 (wt' := fun y => if y = x then none else T.wt y) (fun y => by by_cases e : y = x <;> simp [e]) hg1)
  have K1 := Lib.hid (show Kpf F w w1 from ⟨hg1.os, hg1.tape, hg1.output, hg1.size, fun i hi hn => hg1.block i hi fun e => hn (by have e2 := Option.some.inj e; rw [e2]; exact H0.out.fb)⟩)
  have y2 : w1.cell? ⟨t, 0, none⟩ = some (.map (some a)) := H1.out.bk.cell 0
  clear hd1 hm1 hg1 y1
  obtain ⟨r, hr⟩ : ∃ r, r = w1.heap.size := ⟨_, rfl⟩
  go_wp2_with (first
    | (at_range; refine wpList_mp_range _ rfl _ 51 rfl 27 55 nm_keyed Tryd.underlying51 a C _ rfl H1.out.mq ?_; rw [← hr]; intro w2 left0 cnt0 hl0 hr0 hg0 hs0)
    | fail)
  have M0 := Lib.hid (show RM w F w2 F t a b r C (T.part cpN x left0) fq gq Fn left0 cnt0 from by
    have hw := H0.out.wf
    have st := part_start (cp := cpN) (x := x) (left := left0) (T := T) (fun n hn => by rw [hl0 _ (nk_lit n), H1.out.hq n hn]; cases T.qs n <;> rfl) hw
    exact ⟨(H1.out.kept (below_only hg0)).as st.1 st.2, hr0, K1.out.same (.of_below (below_only hg0)), fun i hi => .inl hi, fun n hn => by have := H1.out.bd r (H1.out.sub n r hn).1; omega, by have := K1.out.size; omega, H0.out.mq.lt, H0.out.mw.lt, H0.out.bk.lt⟩)
  clear H1 K1 y2 hr hl0 hr0 hg0 hs0
  go_frame
  go_loopg [5] cnt0 (fun gg s5 wr => ∃ (left : Lit → Bool) (cnt : Nat) (Fj : Nat → Prop) (fq : Lit → Option Value) (gq : Nm → Nat) (Fn : Nm → Nat → Prop), cnt ≤ gg ∧ Hid (RM w F wr Fj t a b r C (T.part cpN x left) fq gq Fn left cnt))
  case atStart => exact ⟨left0, cnt0, F, fq, gq, Fn, Nat.le_refl _, M0⟩
  case round =>
    clear M0
    obtain ⟨left, cnt, Fj, fqj, gqj, Fnj, hgg, hI⟩ := hrel
    have HG := Lib.hid hgg
    clear hgg
    go_wp2_with (first
      | (at_next; refine wpList_nm_next _ rfl _ rfl a r C fqj left cnt rfl hI.out.mr ?_ ?_)
      | fail)
    · intro _ hl0
      have FN := Lib.hid (FIN.out wr Fj fqj gqj Fnj hI.out.kp hI.out.fe (hI.out.tx.as (part_end hl0).1 (part_end hl0).2))
      clear hl0 hI FIN
      go_wp2
      go_end0
      exact FN.out
    · intro n c w1 cnt1 hnw hln hfn hm1 hc1 hg1 hs1 hen
      have M1 := Lib.hid (hI.out.iter hm1 hg1)
      obtain ⟨q, hq, rfl⟩ : ∃ q, (T.part cpN x left).qs n = some q ∧ c = ptr (gqj n) := by
        rw [hI.out.tx.hq n hnw] at hfn
        cases e : (T.part cpN x left).qs n with
        | none => rw [e] at hfn; cases hfn
        | some q => rw [e] at hfn; exact ⟨q, rfl, (Option.some.inj hfn).symm⟩
      have TQ := Lib.hid (show T.qs n = some q from by
        have := hq
        unfold Tbl.part at this
        dsimp only at this
        rw [if_pos hln] at this
        exact this)
      have HQ := Lib.hid hq
      have HW := Lib.hid hnw
      have WF := Lib.hid (show ∀ k q, T.qs k = some q → k.wf from H0.out.wf)
      have PS := Lib.hid (part_step (cp := cpN) (x := x) (left := left) WF.out hnw)
      have RN := Lib.hid (show ((q.has x ∧ (q.rel cpN x).1.hs = [] ∧ (q.rel cpN x).1.ws = []) → (T.release cpN x).qs n = none) ∧ (¬ (q.has x ∧ (q.rel cpN x).1.hs = [] ∧ (q.rel cpN x).1.ws = []) → (T.release cpN x).qs n = some (q.rel cpN x).1) from by
        unfold Tbl.release
        dsimp only
        rw [TQ.out]
        dsimp only
        exact ⟨fun e => by rw [if_pos e], fun e => by rw [if_neg e]⟩)
      have QN := Lib.hid (Tbl.q_some TQ.out)
      have QO := Lib.hid (OK.out.q n q TQ.out)
      have QF := Lib.hid (FW.out n q TQ.out)
      have QB := Lib.hid (BD.out n q TQ.out)
      have C1 := Lib.hid (Nat.lt_of_lt_of_le hc1 HG.out)
      obtain ⟨left1, hl1⟩ : ∃ left1, left1 = fun z => left z && !z.sameKey (nk n) := ⟨_, rfl⟩
      rw [← hl1] at M1 PS
      have L1 := Lib.hid hl1
      clear hI hq hnw hln hfn hm1 hc1 hg1 hs1 HG FIN hl1
      obtain ⟨K, hK⟩ : ∃ K, K = w1.heap.size := ⟨_, rfl⟩
      have HK := Lib.hid hK
      have ba := (Below.refl w1.heap.size w1).alloc (Nat.le_refl _) (.cells #[.int .i64 n.s, .string n.t] 27)
      have M2 := Lib.hid (M1.out.below ba)
      have KB := Lib.hid (show Bk (w1.alloc (.cells #[.int .i64 n.s, .string n.t] 27)) K 27 #[.int .i64 n.s, .string n.t] from by rw [hK]; exact Bk.new w1 _ _)
      have NK := Lib.hid (show ∀ k, ¬ Fnj k K from fun k e => by have := M1.out.tx.bd K (M1.out.tx.sub k K e).1; omega)
      have KAB := Lib.hid (show K ≠ a ∧ K ≠ b from by
        have h1 := M1.out.tx.mq.lt
        have h2 := M1.out.tx.mw.lt
        omega)
      clear hK M1 ba
      as_aux_lemma =>
        go_upto_region 5 with fail
        rw [← HK.out]
        generalize w1.alloc (.cells #[.int .i64 n.s, .string n.t] 27) = w2 at *
        clear hen HK
        obtain ⟨vh, ve, vw, qm2⟩ := M2.out.tx.qm n q HQ.out
        have hFn : ∀ i, Fnj n i → i < w2.heap.size := fun i hi => M2.out.tx.bd i (M2.out.tx.sub n i hi).1
        have LV := Lib.hid (leave_any qm2 hFn QF.out (by have := NN.out; omega) x)
        have gqn : ∃ gn, gn = gqj n := ⟨_, rfl⟩
        obtain ⟨gn, hgn⟩ := gqn
        have GN := Lib.hid hgn
        rw [← hgn] at LV ⊢
        obtain ⟨bl, hbl⟩ : ∃ bl, bl = decide ((q.leave x).hs.length + (q.leave x).ws.length < q.hs.length + q.ws.length) := ⟨_, rfl⟩
        have BLx := Lib.hid (show bl = true ↔ q.has x from by rw [hbl, decide_eq_true_iff]; exact leave_short)
        rw [← hbl] at LV
        clear hgn hbl qm2 hFn
        go_wp2_with fail
        refine LV.out.mono ?_
        rintro e w3 ⟨rfl, kp3, vh3, ve3, vw3, qm3⟩
        have hgr : ∀ i, Fnj n i → Ext (Fnj n) w2 w3 i := fun i hi => .inl hi
        have M3 := Lib.hid (M2.out.turn HQ.out kp3 (by rw [← GN.out]; exact qm3.mono hgr))
        have KB3 := Lib.hid (kp3.bk KB.out (NK.out n))
        have NK3 := Lib.hid (show ¬ Ext (Fnj n) w2 w3 K from fun e => by
          rcases e with e | e
          · exact NK.out n e
          · have := KB.out.lt; omega)
        have QM3 := Lib.hid (qm3.mono hgr)
        have LT3 := Lib.hid (show ∀ i, Ext (Fnj n) w2 w3 i → i < w3.heap.size from fun i hi => by
          rcases hi with hi | hi
          · exact Nat.lt_of_lt_of_le (M2.out.tx.bd i (M2.out.tx.sub n i hi).1) kp3.size
          · exact hi.2)
        have TF3 := Lib.hid (show ¬ Ext (Fnj n) w2 w3 0 from fun e => by
          rcases e with e | e
          · exact M2.out.tx.nr (M2.out.tx.sub n _ e).1
          · have := M2.out.tx.tab.1; omega)
        clear LV kp3 qm3 hgr M2 KB NK
        cases bl with
        | false =>
          have NH := Lib.hid (show ¬ q.has x from fun h => by have := BLx.out.2 h; cases this)
          have R0 := Lib.hid (show q.rel cpN x = (q, []) from by unfold Que.rel; rw [if_neg NH.out])
          have LN := Lib.hid (leave_none QO.out.1 NH.out)
          have MF := Lib.hid (M3.out.as (T' := T.part cpN x left1) (fun k => by
            rw [PS.out.1 k]
            by_cases e : k = n
            · rw [if_pos e, RN.out.2 (fun h => NH.out h.1), R0.out]
              simp only [if_pos e, LN.out]
            · rw [if_neg e]
              simp only [if_neg e]) (fun y => by
            rw [PS.out.2 y, QN.out, R0.out]
            simp))
          clear M3 KB3 NK3 QM3 LT3 TF3 BLx
          go_wp2
          go_roundg cnt1
          case measure => exact C1.out
          case rel => exact ⟨left1, cnt1, _, _, _, _, Nat.le_refl _, MF⟩
        | true =>
          have HAS := Lib.hid (BLx.out.1 rfl)
          have R1 := Lib.hid (show q.rel cpN x = (q.leave x).give cpN from by unfold Que.rel; rw [if_pos HAS.out])
          have GV := Lib.hid (give_any QM3.out LT3.out M3.out.tx.tab TF3.out (QO.out.1.leave x) (QB.out.leave x) (QF.out.leave x) (by have := NN.out; omega))
          clear BLx
          go_wp2_with fail
          refine GV.out.mono ?_
          rintro e w4 ⟨v4, rfl, row4, kp4, vh4, ve4, vw4, qm4⟩
          obtain ⟨gv, hgv⟩ : ∃ gv, gv = ((q.leave x).give cpN).2 := ⟨_, rfl⟩
          have GVE := Lib.hid hgv
          obtain ⟨q4, hq4⟩ : ∃ q4, q4 = ((q.leave x).give cpN).1 := ⟨_, rfl⟩
          have Q4E := Lib.hid hq4
          rw [← hgv] at row4
          rw [← hq4] at qm4
          obtain ⟨F4, Fn4, M4⟩ : ∃ F4 Fn4, Hid (RM w F w4 F4 t a b r C ⟨fun k => if k = n then some q4 else (T.part cpN x left).qs k, (T.part cpN x left).wt⟩ fqj gqj Fn4 left1 cnt1) := ⟨_, _, Lib.hid ((M3.out.turn (n := n) (q := q.leave x) (by show (if n = n then _ else _) = _; rw [if_pos rfl]) (by simp only [if_pos]; exact kp4) (by simp only [if_pos]; rw [← GN.out]; exact qm4)).as (fun k => by
            by_cases e : k = n
            · simp only [if_pos e]
            · simp only [if_neg e]) (fun y => rfl))⟩
          have KB4 := Lib.hid (kp4.bk KB3.out NK3.out)
          have S3 := Lib.hid (show w.heap.size ≤ w3.heap.size from M3.out.kp.size)
          have ROW := Lib.hid (row4.mono fun i hi => Nat.le_trans S3.out hi)
          have GL := Lib.hid (show gv.length ≤ 1000000 from by
            rw [hgv]
            have h1 := give_len (cp := cpN) (q.leave x)
            have h2 := (QF.out.leave x)
            have := h2.1
            have := h2.2
            have := NN.out
            omega)
          have GI := Lib.hid (show ∀ y, y ∈ gv → -9223372036854775808 ≤ y ∧ y ≤ 9223372036854775807 from fun y hy => by
            rw [hgv] at hy
            have b1 := QB.out.leave x
            rcases (waits_give lawN.sy (QO.out.1.leave x)).2 y hy with h | ⟨p, hp, rfl⟩
            · exact b1.eg y h
            · exact (b1.ws p hp).1)
          obtain ⟨va, vc, hv4⟩ := ROW.out.slice
          obtain ⟨ln, hln⟩ : ∃ ln, ln = gv.length := ⟨_, rfl⟩
          have LN := Lib.hid hln
          subst hv4
          have l63 : ln ≤ 1000000 := by rw [hln]; exact GL.out
          clear GV row4 kp4 qm4 M3 KB3 NK3 QM3 LT3 TF3 hgv hq4
          rw [← hln]
          clear hln
          as_aux_lemma =>
            go_wp2_with fail
            go_loopw [32] (fun s32 wr => ∃ i : Nat, s32 = .int .i64 i ∧ i ≤ ln ∧ Hid (RM w F wr F4 t a b r C ⟨fun k => if k = n then some q4 else (T.part cpN x left).qs k, fun y => if y ∈ gv.take i then none else (T.part cpN x left).wt y⟩ fqj gqj Fn4 left1 cnt1 ∧ Rk wr (fun i => w.heap.size ≤ i) 3 1 eC (.slice va gv.length vc) gv ∧ Bk wr K 27 #[.int .i64 n.s, .string n.t])) (fun s32 _ => ln - (intOf s32).toNat)
            case atStart => exact ⟨0, rfl, Nat.zero_le _, Lib.hid ⟨M4.out.as (fun k => rfl) (fun y => by simp), ROW.out, KB4.out⟩⟩
            case round =>
              clear M4 ROW KB4
              obtain ⟨i, rfl, hil, hI⟩ := hrel
              by_cases hlt : i < ln
              · have HLT := Lib.hid hlt
                have hig : i < gv.length := by rw [← LN.out]; exact hlt
                rcases hI.out.2.1 with ⟨_, hnil⟩ | ⟨bv, ov, cv, cuv, hv, hFv, hAv⟩
                · rw [hnil] at hig; exact absurd hig (Nat.not_lt_zero _)
                obtain ⟨rfl, rfl⟩ : va = some ⟨bv, ov, none⟩ ∧ vc = cv := by simpa using hv
                obtain ⟨y, hy⟩ : ∃ y, y = gv[i] := ⟨_, rfl⟩
                have HY := Lib.hid hy
                have y0 : wr.cell? ⟨bv, ov + i, none⟩ = some (.int .i64 y) := by
                  have t := hAv.cell (j := i) hig (i := 0) (u := .int .i64 y) (by rw [hy]; rfl)
                  simpa using t
                have y1 : wr.cell? ⟨t, 1, none⟩ = some (.map (some b)) := hI.out.1.tx.bk.cell 1
                obtain ⟨w5, hd5, hm5, hg5⟩ := hI.out.1.tx.mw.drop int_keyed9 Tryd.underlying52 (keyOf_int_mk Tryd.underlying3 (wf_int (GI.out y (by rw [hy]; exact List.getElem_mem hig)))) 0
                have M5 := Lib.hid ((hI.out.1.unwait hm5 hg5).as (T' := ⟨fun k => if k = n then some q4 else (T.part cpN x left).qs k, fun z => if z ∈ gv.take (i + 1) then none else (T.part cpN x left).wt z⟩) (fun k => rfl) (fun z => by
                  show (if z ∈ gv.take (i + 1) then _ else _) = (if z = y then none else if z ∈ gv.take i then none else _)
                  have e3 : z ∈ gv.take (i + 1) ↔ z ∈ gv.take i ∨ z = y := by rw [List.take_succ_eq_append_getElem hig, List.mem_append, List.mem_singleton, ← HY.out]
                  by_cases e1 : z = y
                  · rw [if_pos (e3.2 (.inr e1)), if_pos e1]
                  · rw [if_neg e1]
                    by_cases e2 : z ∈ gv.take i
                    · rw [if_pos (e3.2 (.inl e2)), if_pos e2]
                    · rw [if_neg (fun h => (e3.1 h).elim e2 e1), if_neg e2]))
                have R5 := Lib.hid (hI.out.2.1.apart (w' := w5) fun j ⟨cs, hj⟩ => hg5.block j hj.lt fun e => by
                  have e := Option.some.inj e
                  exact hI.out.1.tx.mw.ne_bk hj e.symm)
                have K5 := Lib.hid (hI.out.2.2.grown hg5 fun e => KAB.out.2 (Option.some.inj e))
                clear hI hv hFv hAv hy hm5 hg5
                go_wp2
                go_roundw
                case rel => exact ⟨i + 1, by go_num, by have := HLT.out; omega, Lib.hid ⟨M5.out, R5.out, K5.out⟩⟩
                case measure => have := HLT.out; simp [intOf]; omega
              · obtain rfl : i = ln := by omega
                have M5 := Lib.hid (hI.out.1.as (T' := ⟨fun k => if k = n then some q4 else (T.part cpN x left).qs k, fun z => if z ∈ gv then none else (T.part cpN x left).wt z⟩) (fun k => rfl) (fun z => by rw [LN.out, List.take_length]))
                have K5 := Lib.hid hI.out.2.2
                clear hI hlt
                obtain ⟨vh5, ve5, vw5, qm5⟩ := M5.out.tx.qm n q4 (by show (if n = n then _ else _) = _; rw [if_pos rfl])
                obtain ⟨ha, hc, hvh⟩ := qm5.hs.slice
                obtain ⟨wa, wc, hvw⟩ := qm5.ws.slice
                have z0 : wr.cell? ⟨gn, 0, none⟩ = some (.slice ha q4.hs.length hc) := by rw [← hvh, GN.out]; exact qm5.bk.cell 0
                have z2 : wr.cell? ⟨gn, 2, none⟩ = some (.slice wa q4.ws.length wc) := by rw [← hvw, GN.out]; exact qm5.bk.cell 2
                have QR := Lib.hid (show (q.rel cpN x) = (q4, gv) from by rw [R1.out, Q4E.out, GVE.out])
                clear qm5 hvh hvw
                by_cases h0 : q4.hs.length = 0
                · by_cases h1 : q4.ws.length = 0
                  · have E0 := Lib.hid (List.eq_nil_of_length_eq_zero h0)
                    have E1 := Lib.hid (List.eq_nil_of_length_eq_zero h1)
                    rw [h0] at z0
                    rw [h1] at z2
                    have M5d := Lib.hid (M5.out.below (w' := wr.drew) ⟨rfl, rfl, rfl, Nat.le_refl _, fun _ _ => rfl⟩)
                    obtain ⟨w6, cnt6, hd6, hm6, hc6, hg6⟩ := M5d.out.mr.drop nm_keyed Tryd.underlying51 (nk_of HW.out) 0
                    have y0 : wr.cell? ⟨t, 0, none⟩ = some (.map (some a)) := M5.out.tx.bk.cell 0
                    have k0 : wr.cell? ⟨K, 0, none⟩ = some (.int .i64 n.s) := K5.out.cell 0
                    have k1 : wr.cell? ⟨K, 1, none⟩ = some (.string n.t) := K5.out.cell 1
                    have MF := Lib.hid (show RM w F w6 _ t a b r C (T.part cpN x left1) _ _ _ left1 cnt6 from (M5d.out.drop HW.out (by rw [L1.out] at hm6 ⊢; rw [strike_twice] at hm6; exact hm6) hg6).as (fun k => by
                      rw [PS.out.1 k]
                      by_cases e : k = n
                      · rw [if_pos e, RN.out.1 ⟨HAS.out, by rw [QR.out]; exact E0.out, by rw [QR.out]; exact E1.out⟩]
                        simp only [if_pos e]
                      · rw [if_neg e]
                        simp only [if_neg e]) (fun z => by rw [PS.out.2 z, QN.out, QR.out]))
                    have C6 := Lib.hid (Nat.lt_of_le_of_lt hc6 C1.out)
                    clear M5 M5d K5 hm6 hc6 hg6 h0 h1
                    go_upto_region 12 with fail
                    clear z0 z2
                    go_region
                    clear hd6 y0 k0 k1
                    go_wp2
                    go_roundg cnt6
                    case measure => exact C6.out
                    case rel => exact ⟨left1, cnt6, _, _, _, _, Nat.le_refl _, MF⟩
                  · have NE := Lib.hid (show ¬ (q.has x ∧ (q.rel cpN x).1.hs = [] ∧ (q.rel cpN x).1.ws = []) from fun h => h1 (by have := h.2.2; rw [QR.out] at this; rw [this]; rfl))
                    have nz : ((q4.ws.length : Int) == 0) = false := beq_eq_false_iff_ne.2 (by omega)
                    have nz2 : ¬ ((q4.ws.length : Int) = 0) := by omega
                    rw [h0] at z0
                    clear h0
                    have MF := Lib.hid (M5.out.as (T' := T.part cpN x left1) (fun k => by
                      rw [PS.out.1 k]
                      by_cases e : k = n
                      · rw [if_pos e, RN.out.2 NE.out, QR.out]
                        simp only [if_pos e]
                      · rw [if_neg e]
                        simp only [if_neg e]) (fun z => by rw [PS.out.2 z, QN.out, QR.out]))
                    clear M5 K5
                    go_wp2
                    go_roundg cnt1
                    case measure => exact C1.out
                    case rel => exact ⟨left1, cnt1, _, _, _, _, Nat.le_refl _, MF⟩
                · have NE := Lib.hid (show ¬ (q.has x ∧ (q.rel cpN x).1.hs = [] ∧ (q.rel cpN x).1.ws = []) from fun h => h0 (by have := h.2.1; rw [QR.out] at this; rw [this]; rfl))
                  have nz : ((q4.hs.length : Int) == 0) = false := beq_eq_false_iff_ne.2 (by omega)
                  have nz2 : ¬ ((q4.hs.length : Int) = 0) := by omega
                  have MF := Lib.hid (M5.out.as (T' := T.part cpN x left1) (fun k => by
                    rw [PS.out.1 k]
                    by_cases e : k = n
                    · rw [if_pos e, RN.out.2 NE.out, QR.out]
                      simp only [if_pos e]
                    · rw [if_neg e]
                      simp only [if_neg e]) (fun z => by rw [PS.out.2 z, QN.out, QR.out]))
                  clear M5 K5
                  go_wp2
                  go_roundg cnt1
                  case measure => exact C1.out
                  case rel => exact ⟨left1, cnt1, _, _, _, _, Nat.le_refl _, MF⟩
end Go.Proofs.YtnpnpkaklamboaaDoor
