/- Layer 16: TreeBack. -/
import Derived.Test.YtkehknokfenioaaTrBkP
set_option linter.unusedVariables false
set_option linter.unusedSimpArgs false
namespace Go.Proofs.Ytkehknokfenioaa
open Go.RowKit Go.Maps

set_option maxRecDepth 100000 in
set_option maxHeartbeats 24000000 in
theorem walk_TreeBack (v : Value) (cl : List Kl) (v2 : Value) (cl2 : List Kl) (w : World) (h : KlsIn w v cl) (h2 : KlsIn w v2 cl2) :
    Calls Try.prog 3 #[v, v2] w fun e w' => e = .returned (.bool true) ∧ Below w.heap.size w w' := by
  have CIN := Lib.hid h
  have CIN2 := Lib.hid h2
  have CA := Lib.hid (awake16 w)
  obtain ⟨a, c, rfl, -⟩ := h.at_
  obtain ⟨a2, c2, rfl, -⟩ := h2.at_
  have LM := Lib.hid h.len
  have LM2 := Lib.hid h2.len
  obtain ⟨len, hlen⟩ : ∃ len, len = cl.length := ⟨_, rfl⟩
  obtain ⟨len2, hlen2⟩ : ∃ len2, len2 = cl2.length := ⟨_, rfl⟩
  have HLN := Lib.hid hlen
  have HLN2 := Lib.hid hlen2
  rw [← hlen] at CIN LM ⊢
  rw [← hlen2] at CIN2 LM2 ⊢
  clear h h2 hlen hlen2
  go_enter Try.func3, Try.ntmps3
  go_wp2_with fail
  refine CA.out.mono ?_
  rintro e w1 ⟨rfl, hb⟩
  have B1 := Lib.hid hb
  have CI1 := Lib.hid (CIN.out.kept hb)
  have CI2 := Lib.hid (CIN2.out.kept hb)
  clear hb CA CIN CIN2
  by_cases c200 : (200 : Int) < (len : Int)
  · --@aux
      go_wp2
      go_ret
      exact ⟨rfl, B1.out⟩
  have LL := Lib.hid (show len ≤ 200 by omega)
  have c200n : ¬ 200 < len := by omega
  by_cases d200 : (200 : Int) < (len2 : Int)
  · --@aux
      go_wp2
      go_ret
      exact ⟨rfl, B1.out⟩
  have LL2 := Lib.hid (show len2 ≤ 200 by omega)
  have d200n : ¬ 200 < len2 := by omega
  have CV := Lib.hid (volume_any 256 (by decide) (by decide) w1)
  rw [show ((256 : Nat) : Int) = 256 from rfl] at CV
  as_aux_lemma =>
      go_wp2_with fail
      refine CV.out.mono ?_
      clear c200 c200n d200 d200n
      rintro e w2 ⟨g, b, gs, r, pg, rfl, hs, ht, hb⟩
      have BB := Lib.hid (show w1.heap.size ≤ b ∧ w1.heap.size ≤ r from ⟨hs.b_ge, hs.r_ge⟩)
      have B2 := Lib.hid hb
      have V2 := Lib.hid hs
      have T2 := Lib.hid ht
      clear hs ht hb CV
      as_aux_lemma =>
          go_wp2_with fail
          go_loopw [41] (fun i wr => ∃ (k M H : Nat) (pg : Nat → Pg) (ids : List Nat) (R : List (ByteArray × Ce)), k ≤ len ∧ i = .int .i64 k ∧ M ≤ 5 + 40 * k ∧ SV wr w1.heap.size g b gs r 256 M pg pg ∧ Tl pg 256 H ids R False ∧ Below w1.heap.size w1 wr) (fun i _ => len - (intOf i).toNat)
          case atStart => exact ⟨0, _, _, pg, _, [], Nat.zero_le _, rfl, Nat.le_refl _, V2.out, T2.out.weak (fun h => h.elim), B2.out⟩
          case round =>
            clear V2 B2 T2
            obtain ⟨k, M, H, pg, ids, R, hk, rfl, hM, hs, ht, hb⟩ := hrel
            have V := Lib.hid hs; have HT := Lib.hid ht; have BW := Lib.hid hb; have HM := Lib.hid hM
            by_cases hlt : k < len
            · have HLT := Lib.hid hlt
              have hkb : k < 9223372036854775807 := by have := LL.out; omega
              have hkc : k < cl.length := by rw [← HLN.out]; exact hlt
              obtain ⟨cc, hcc⟩ : ∃ cc, cc = cl[k] := ⟨_, rfl⟩
              have KI := CI1.out.kept hb
              have OK := Lib.hid (KI.bd _ (List.getElem_mem hkc))
              obtain ⟨a', c', e1, hat⟩ := KI.at_
              obtain ⟨b1, off, e2, hb1, hra⟩ := hat (by omega)
              rw [← HLN.out] at e1
              obtain ⟨rfl, rfl⟩ : a = some ⟨b1, off, none⟩ ∧ c = c' := by rw [e2] at e1; simpa using e1
              have RK := Lib.hid (hra k cl[k] (List.getElem?_eq_getElem hkc))
              rw [← hcc] at OK RK
              have V1 := Lib.hid (hs.alloc (.cells cc.cs 30))
              have B1' := Lib.hid (hb.alloc hb.size (.cells cc.cs 30))
              have K1 := Lib.hid (Bk.new wr 30 cc.cs)
              have O1 := Lib.hid (OK.out.kept ((Below.refl wr.heap.size wr).alloc (Nat.le_refl _) (.cells cc.cs 30)))
              clear e1 hat e2 hb1 hra hcc hkc KI hs ht hb hM V BW
              as_aux_lemma =>
                  go_upto_region 11 with (first | (refine load_kl_off rfl _ rfl b1 off k cc rfl RK.out ?_) | (refine store_kl_new rfl _ _ rfl cc OK.out.sl rfl rfl ?_))
                  generalize wr.alloc (.cells cc.cs 30) = w9 at *
                  clear OK RK
                  obtain ⟨G, hG⟩ : ∃ G, G = wr.heap.size := ⟨_, rfl⟩
                  rw [← hG] at K1 ⊢
                  clear hG
                  have x4 : w9.cell? ⟨G, 4, none⟩ = some cc.kv := K1.out.cell 4
                  have CD := Lib.hid (tdo_any V1.out (Nat.le_refl _) HT.out (by have := HM.out; have := HLT.out; have := LL.out; unfold maxLen; omega) cc O1.out.key O1.out.val _ _ O1.out.row)
                  generalize cc.kv = ckv at *
                  clear V1 O1
                  as_aux_lemma =>
                      go_wp2_with (refine load_kl rfl _ rfl G cc rfl K1.out ?_)
                      refine CD.out.mono ?_
                      rintro e w11 ⟨u, er, rfl, hm⟩
                      obtain ⟨pg', hs, hg, -, H2, ids2, R2, ht2, -⟩ := hm.after HT.out
                      have V3 := Lib.hid (hs.alloc (.cells u.cs 34)); have T2 := Lib.hid (ht2.weak (fun h => h.elim : False → _))
                      have B3' := Lib.hid ((bl_grow B1'.out hg (fun k hk => by cases hk; exact BB.out.1) B1'.out.size).alloc (Nat.le_trans B1'.out.size hg.size) (.cells u.cs 34))
                      clear hm hs hg ht2 B1' CD K1 x4 HT
                      as_aux_lemma =>
                          go_wp2_with (refine store_ud_new rfl _ _ rfl u rfl rfl ?_; generalize w11.alloc (.cells u.cs 34) = w12 at *)
                          refine (tland_any V3.out B3'.out er).mono ?_
                          rintro e w13 ⟨rfl, hs, hb, -⟩
                          have V4 := Lib.hid hs; have B4 := Lib.hid hb
                          generalize landed er pg pg' = pgl at *
                          clear hs hb V3 B3'
                          go_wp2
                          go_roundw
                          case rel => exact ⟨k + 1, M + 40, H2, pgl, ids2, R2, by have := HLT.out; omega, by go_num, by have := HM.out; omega, V4.out, T2.out, B4.out⟩
                          case measure => have := HLT.out; simp [intOf]; omega
            · obtain rfl : k = len := by omega
              have CR := Lib.hid (tl_all hs (Nat.le_refl _) ht)
              have M0 := Lib.hid (show M ≤ 8005 by have := HM.out; have := LL.out; omega)
              have T0 := Lib.hid ht
              obtain ⟨bl, hbl⟩ : ∃ bl, bl = rangeL R ⟨#[]⟩ 64 := ⟨_, rfl⟩
              have HBL := Lib.hid hbl
              have BLN := Lib.hid (show bl.length ≤ 64 by rw [hbl]; exact rangeL_len _ _ _)
              rw [← hbl] at CR
              have GE := Lib.hid hs.gs_ne
              clear hlt hk hs ht hb hM hbl
              as_aux_lemma =>
                  go_wp2_with fail
                  refine CR.out.mono ?_
                  rintro e w2 ⟨bv, rfl, ho, hb⟩
                  obtain ⟨xa, xc, rfl⟩ := ow_slice ho
                  have V2 := Lib.hid (V.out.kept hb); have B2 := Lib.hid (below_then BW.out hb BW.out.size); have OW := Lib.hid ho
                  obtain ⟨PB, hPB⟩ : ∃ PB, PB = wr.heap.size := ⟨_, rfl⟩
                  have SZP := Lib.hid (show w1.heap.size ≤ PB ∧ PB ≤ w2.heap.size by rw [hPB]; exact ⟨BW.out.size, hb.size⟩)
                  rw [← hPB] at OW GE
                  clear ho hb CR V BW hPB
                  as_aux_lemma =>
                      go_wp2_with fail
                      go_loopw [14, 15, 68] (fun ks xs i wr => ∃ (k M H : Nat) (pg' : Nat → Pg) (ids' : List Nat) (R' : List (ByteArray × Ce)) (S : Nat → Cells) (us : List Und), k ≤ len2 ∧ i = .int .i64 k ∧ M ≤ 8005 + 40 * k ∧ SV wr w1.heap.size g b gs r 256 M pg' pg' ∧ Tl pg' 256 H ids' R' False ∧ (∀ x, lvS R' x ↔ S us.length x) ∧ (∀ x, S 0 x ↔ lvS R x) ∧ Don S us ∧ Pres R' us ∧ us.length ≤ k ∧ wr.ownsRow PB 9 1 ks us.length (kyL us) ∧ wr.ownsRow PB 34 7 xs us.length (uL us) ∧ KOwn wr PB (.slice xa bl.length xc) bl ∧ Below w1.heap.size w1 wr ∧ PB ≤ wr.heap.size) (fun _ _ i _ => len2 - (intOf i).toNat)
                      case atStart => exact ⟨0, M, H, pg, ids, R, fun _ => lvS R, [], Nat.zero_le _, rfl, M0.out, V2.out, HT.out, fun x => Iff.rfl, fun x => Iff.rfl, Don.nil _, (fun p hp => (by cases hp)), Nat.le_refl _, World.ownsRow_nil _ _ _ _, World.ownsRow_nil _ _ _ _, OW.out, B2.out, SZP.out.2⟩
                      case round =>
                        clear V2 B2 OW HT HM M0
                        obtain ⟨k, M, H, pg', ids', R', S, us, hk, rfl, hM, hs, ht, hL, hS0, hdon, hpres, hul, hkr, hu, hp, hb, hpb⟩ := hrel
                        obtain ⟨ua, uc, rfl⟩ := ow_slice hu
                        obtain ⟨ka, kc, rfl⟩ := ow_slice hkr
                        have V := Lib.hid hs; have HT := Lib.hid ht; have BW := Lib.hid hb; have HM := Lib.hid hM; have HL := Lib.hid hL; have S0 := Lib.hid hS0; have DON := Lib.hid hdon; have PRS := Lib.hid hpres; have UO := Lib.hid hu; have KO := Lib.hid hkr; have PO := Lib.hid hp; have PS := Lib.hid hpb
                        obtain ⟨ul, hulen⟩ : ∃ ul, ul = us.length := ⟨_, rfl⟩
                        have UL := Lib.hid hulen
                        rw [← hulen] at hul ⊢
                        have UK := Lib.hid hul
                        clear hs ht hb hM hL hS0 hdon hpres hu hkr hp hpb hulen hul
                        by_cases hlt : k < len2
                        · have HLT := Lib.hid hlt
                          have hkb : k < 9223372036854775807 := by have := LL2.out; omega
                          have hkc : k < cl2.length := by rw [← HLN2.out]; exact hlt
                          obtain ⟨cc, hcc⟩ : ∃ cc, cc = cl2[k] := ⟨_, rfl⟩
                          have KI := CI2.out.kept BW.out
                          have OK := Lib.hid (KI.bd _ (List.getElem_mem hkc))
                          obtain ⟨a', c', e1, hat⟩ := KI.at_
                          obtain ⟨b1, off, e2, hb1, hra⟩ := hat (by omega)
                          rw [← HLN2.out] at e1
                          obtain ⟨rfl, rfl⟩ : a2 = some ⟨b1, off, none⟩ ∧ c2 = c' := by rw [e2] at e1; simpa using e1
                          have RK := Lib.hid (hra k cl2[k] (List.getElem?_eq_getElem hkc))
                          rw [← hcc] at OK RK
                          clear e1 hat e2 hb1 hra hcc hkc KI
                          have V1 := Lib.hid (V.out.alloc (.cells cc.cs 30))
                          have B1' := Lib.hid (BW.out.alloc BW.out.size (.cells cc.cs 30))
                          have K1 := Lib.hid (Bk.new wr 30 cc.cs)
                          have U1 := Lib.hid (UO.out.alloc (.cells cc.cs 30)); have P1 := Lib.hid (World.ownsRow.alloc PO.out (.cells cc.cs 30)); have KR1 := Lib.hid (KO.out.alloc (.cells cc.cs 30))
                          have PS1 := Lib.hid (show PB ≤ (wr.alloc (.cells cc.cs 30)).heap.size ∧ wr.heap.size ≤ (wr.alloc (.cells cc.cs 30)).heap.size from ⟨Nat.le_trans PS.out (by simp), by simp⟩)
                          have WK := Lib.hid (show ∀ k, (Value.slice ua ul uc).ownBlock = some k → k < wr.heap.size from fun k hk => (ow_blk (by have := UO.out; rw [← UL.out] at this; exact this) hk).2.1)
                          have O1 := Lib.hid (OK.out.kept ((Below.refl wr.heap.size wr).alloc (Nat.le_refl _) (.cells cc.cs 30)))
                          clear V BW UO KO PO PS
                          as_aux_lemma =>
                              go_upto_region 23 with (first | (refine load_kl_off rfl _ rfl b1 off k cc rfl RK.out ?_) | (refine store_kl_new rfl _ _ rfl cc OK.out.sl rfl rfl ?_))
                              generalize wr.alloc (.cells cc.cs 30) = w7 at *
                              clear OK RK
                              obtain ⟨G, hG⟩ : ∃ G, G = wr.heap.size := ⟨_, rfl⟩
                              rw [← hG] at K1 ⊢
                              clear hG
                              have CO := Lib.hid (tdo_any V1.out (Nat.le_refl _) HT.out (by have := HM.out; have := HLT.out; have := LL2.out; unfold maxLen; omega) cc O1.out.key O1.out.val _ _ (keys_row KR1.out (by rw [← UL.out]; have := UK.out; have := HLT.out; have := LL2.out; unfold maxLen; omega)))
                              rw [← UL.out] at CO
                              clear V1 O1
                              as_aux_lemma =>
                                  go_wp2_with (refine load_kl rfl _ rfl G cc rfl K1.out ?_)
                                  refine CO.out.mono ?_
                                  rintro e w8 ⟨u, er, rfl, hm⟩
                                  obtain ⟨pg2, hs, hg, hu0, H2, ids2, R2, ht2, hst⟩ := hm.after HT.out
                                  have V9 := Lib.hid (hs.alloc (.cells u.cs 34)); have T9 := Lib.hid (ht2.weak (fun h => h.elim : False → _))
                                  have B9 := Lib.hid ((bl_grow B1'.out hg (fun k hk => by cases hk; exact BB.out.1) B1'.out.size).alloc (Nat.le_trans B1'.out.size hg.size) (.cells u.cs 34))
                                  have U9 := Lib.hid ((ow_grown U1.out hg (fun j hj => by cases hj; exact GE.out.2.1)).alloc (.cells u.cs 34))
                                  have P9 := Lib.hid (World.ownsRow.alloc (ow_grown P1.out hg (fun j hj => by cases hj; exact GE.out.2.1)) (.cells u.cs 34))
                                  have KR9 := Lib.hid ((ow_grown KR1.out hg (fun j hj => by cases hj; exact GE.out.2.1)).alloc (.cells u.cs 34))
                                  have PS9 := Lib.hid (show PB ≤ (w8.alloc (.cells u.cs 34)).heap.size from Nat.le_trans PS1.out.1 (Nat.le_trans hg.size (by simp)))
                                  have K9 := Lib.hid (Bk.new w8 34 u.cs)
                                  obtain ⟨W, hW⟩ : ∃ W, W = w8.heap.size := ⟨_, rfl⟩
                                  rw [← hW] at K9
                                  have HW := Lib.hid hW
                                  have WB := Lib.hid (show W ≠ b ∧ W ≠ r ∧ wr.heap.size ≤ W from by
                                    have h1 := hs.gs_ne; have h2 := hg.size; have h3 := PS1.out.2
                                    rw [← hW] at h1 h2; omega)
                                  have PS2 := Lib.hid (Pres.step PRS.out hst)
                                  have HST := Lib.hid hst; have HU0 := Lib.hid hu0
                                  clear hm hs hg ht2 hst hu0 CO K1 U1 P1 KR1 B1' PS1 hW
                                  as_aux_lemma =>
                                      go_wp2_with (refine store_ud_new rfl _ _ rfl u rfl rfl ?_; rw [← HW.out]; clear HW; generalize w8.alloc (.cells u.cs 34) = w9 at *)
                                      refine (tland_any V9.out B9.out er).mono ?_
                                      rintro e w10 ⟨rfl, hs, hb, hoth⟩
                                      have V10 := Lib.hid hs; have B10 := Lib.hid hb
                                      have K10 := Lib.hid (hoth.bk K9.out WB.out.1 WB.out.2.1)
                                      have U10 := Lib.hid (ow_oth U9.out hoth GE.out.2.1 GE.out.2.2.2)
                                      have P10 := Lib.hid (ow_oth P9.out hoth GE.out.2.1 GE.out.2.2.2)
                                      have KR10 := Lib.hid (ow_oth KR9.out hoth GE.out.2.1 GE.out.2.2.2)
                                      have PS10 := Lib.hid (Nat.le_trans PS9.out hoth.1)
                                      generalize landed er pg' pg2 = pgl at *
                                      have HM2 := Lib.hid (show M + 40 ≤ 8005 + 40 * (k + 1) by have := HM.out; omega)
                                      clear hs hb hoth V9 B9 K9 U9 P9 KR9 PS9 HM
                                      rcases HST.out with ⟨hu, hR⟩ | ⟨c0, cn, hu, hky, hcn, h0, hdid⟩
                                      · have y0 : w10.cell? ⟨W, 0, none⟩ = some (.int .i64 0) := by rw [K10.out.cell, hu]; rfl
                                        subst hR
                                        clear HST HU0 K10 hu
                                        as_aux_lemma =>
                                            by_cases he : er = 0
                                            · subst he
                                              go_wp2
                                              go_roundw
                                              case rel => exact ⟨k + 1, M + 40, H2, pgl, ids2, R2, S, us, by have := HLT.out; omega, by go_num, HM2.out, V10.out, T9.out, HL.out, S0.out, DON.out, PS2.out, by have := UK.out; have := UL.out; omega, by have := KR10.out; rw [← UL.out] at this ⊢; exact this, by have := U10.out; rw [← UL.out] at this ⊢; exact this, P10.out, B10.out, PS10.out⟩
                                              case measure => have := HLT.out; simp [intOf]; omega
                                            · have heb : (er == 0) = false := by simp [he]
                                              go_wp2
                                              go_roundw
                                              case rel => exact ⟨k + 1, M + 40, H2, pgl, ids2, R2, S, us, by have := HLT.out; omega, by go_num, HM2.out, V10.out, T9.out, HL.out, S0.out, DON.out, PS2.out, by have := UK.out; have := UL.out; omega, by have := KR10.out; rw [← UL.out] at this ⊢; exact this, by have := U10.out; rw [← UL.out] at this ⊢; exact this, P10.out, B10.out, PS10.out⟩
                                              case measure => have := HLT.out; simp [intOf]; omega
                                      · obtain rfl : er = 0 := Classical.byContradiction fun hne => by
                                          have h1 := HU0.out hne
                                          rw [h1] at hu
                                          exact absurd (congrArg Ud.k hu) (show ¬ (0 : Int) = 2 by decide)
                                        obtain ⟨p, hp⟩ : ∃ p : Und, p = (cc.key, c0) := ⟨_, rfl⟩
                                        have hup : u = udOf p := by rw [hp]; exact hu
                                        have KY := Lib.hid (show p.1 = cc.key by rw [hp])
                                        have DON2 := DON.out.snoc p (lvS R2) (by rw [hp]; exact hky) (by
                                          rw [hp]
                                          intro hne
                                          rcases h0 with ⟨e, -⟩ | h
                                          · exact absurd (by rw [e]; rfl) hne
                                          · exact ⟨(HT.out.row h).2, (HT.out.row h).1⟩) (fun x => by
                                          rw [hp]
                                          exact (did_back HT.out h0 hdid x).trans (HL.out x))
                                        have PS3 := Lib.hid (show Pres R2 (us ++ [p]) from fun q hq => by
                                          rcases List.mem_append.1 hq with h | h
                                          · exact PS2.out q h
                                          · obtain rfl : q = p := by simpa using h
                                            exact ⟨cn, by rw [KY.out]; exact hdid.1⟩)
                                        obtain ⟨S2, hS2⟩ : ∃ S2 : Nat → Cells, S2 = fun i => if i ≤ us.length then S i else lvS R2 := ⟨_, rfl⟩
                                        rw [← hS2] at DON2
                                        have DN2 := Lib.hid DON2
                                        have HL2 := Lib.hid (show ∀ x, lvS R2 x ↔ S2 (us ++ [p]).length x from fun x => by rw [hS2]; show lvS R2 x ↔ (if (us ++ [p]).length ≤ us.length then S (us ++ [p]).length else lvS R2) x; rw [if_neg (by simp)])
                                        have S02 := Lib.hid (show ∀ x, S2 0 x ↔ lvS R x from fun x => by rw [hS2]; simpa using S0.out x)
                                        have EL := Lib.hid (show ul + 1 = (us ++ [p]).length by rw [List.length_append, ← UL.out]; rfl)
                                        have EU := Lib.hid (show uL us ++ u.cs.toList = uL (us ++ [p]) from by rw [uL_app, hup])
                                        have EY := Lib.hid (show kyL us ++ [.string cc.key] = kyL (us ++ [p]) from by rw [kyL_app, KY.out])
                                        have EK := Lib.hid (show (us ++ [p]).length ≤ k + 1 by have := UK.out; rw [← EL.out]; omega)
                                        have y0 : w10.cell? ⟨W, 0, none⟩ = some (.int .i64 2) := by rw [K10.out.cell, hu]; rfl
                                        have Y4 := Lib.hid (show u.cs[4]? = some (.string cc.key) from by rw [hu]; rfl)
                                        rw [← UL.out] at U10 KR10
                                        have UA := Lib.hid (U10.out.alloc (.cells u.cs 34)); have PA := Lib.hid (World.ownsRow.alloc P10.out (.cells u.cs 34)); have KA := Lib.hid (KR10.out.alloc (.cells u.cs 34))
                                        have VA := Lib.hid (V10.out.alloc (.cells u.cs 34)); have BA := Lib.hid (B10.out.alloc B10.out.size (.cells u.cs 34))
                                        have PSA := Lib.hid (show PB ≤ (w10.alloc (.cells u.cs 34)).heap.size from Nat.le_trans PS10.out (by simp))
                                        have K11 := Lib.hid (K10.out.alloc (.cells u.cs 34))
                                        have ULB := Lib.hid (show ul + 1 ≤ 201 by have := UK.out; have := HLT.out; have := LL2.out; omega)
                                        obtain ⟨i0, hi, hz0, hz1, hz2⟩ := info_parts infoUd
                                        obtain ⟨i1, gi, gz0, gz1, gz2⟩ := info_parts infoTx
                                        clear hS2 DON2 hup hp hu hky hcn h0 hdid HST HU0 PS2 HL DON S0 PRS HT U10 V10 B10 P10 KR10 PS10
                                        as_aux_lemma =>
                                            go_upto_region 27 with fail
                                            clear y0
                                            go_upto_region 28 with (first
                                              | (refine load_ud rfl _ rfl W u rfl K10.out ?_)
                                              | (refine slice1_ud rfl _ rfl u rfl ?_)
                                              | (at_builtin; refine wpList_append_one _ rfl _ _ 42 rfl PB 34 i0 (.agg ud0.cs) 7 72 Try.underlying42 hi hz0 hz1 hz2 rfl (.slice ua ul uc) ul (uL us) rfl UA.out ⟨w10.heap.size, 0, none⟩ 1 u.cs.toList rfl rfl ?qc2 ?qc3 ?qc4 (by omega) ?qc5 ?qc6 ?_))
                                            case qc2 =>
                                              intro q x hx
                                              have hn := (Bk.new w10 34 u.cs).cell q
                                              rw [Addr.add_lit, Nat.zero_add]
                                              refine Eq.trans hn ?_
                                              simpa using hx
                                            case qc3 => simp [Ud.cs, Value.oneCell']
                                            case qc4 => have := ULB.out; unfold maxLen; omega
                                            case qc5 => have := ULB.out; omega
                                            case qc6 => exact PSA.out
                                            intro v' w12 hown hgrow
                                            obtain ⟨ia, ic, rfl⟩ := ow_slice hown
                                            have GN := GE.out
                                            have V12 := (VA.out.grown hgrow (fun k hk => by have := (ow_blk UA.out hk).1; omega))
                                            have P12 := (ow_same PA.out (fun k hk => hgrow.block k (ow_blk PA.out hk).2.1 (fun e => ow_apart PA.out UA.out (by decide) k hk e.symm)))
                                            have KY12 := (ow_same KA.out (fun k hk => hgrow.block k (ow_blk KA.out hk).2.1 (fun e => ow_apart KA.out UA.out (by decide) k hk e.symm)))
                                            have B12 := (bl_grow BA.out hgrow (fun k hk => by have := (ow_blk UA.out hk).1; have := SZP.out; omega) BA.out.size)
                                            have S12 := (Nat.le_trans PSA.out hgrow.size)
                                            have K12 := (K11.out.grown hgrow (fun e => by have h1 := WK.out _ e.symm; have h2 := WB.out.2.2; omega))
                                            have V13 := Lib.hid (V12.alloc (.cells #[.string cc.key] 9)); have P13 := Lib.hid (World.ownsRow.alloc P12 (.cells #[.string cc.key] 9)); have KY13 := Lib.hid (KY12.alloc (.cells #[.string cc.key] 9)); have B13 := Lib.hid (B12.alloc B12.size (.cells #[.string cc.key] 9)); have U13 := Lib.hid (hown.alloc (.cells #[.string cc.key] 9))
                                            have S13 := Lib.hid (show PB ≤ (w12.alloc (.cells #[.string cc.key] 9)).heap.size from Nat.le_trans S12 (by simp))
                                            have x4 : w12.cell? ⟨W, 4, none⟩ = some (.string cc.key) := by rw [K12.cell]; exact Y4.out
                                            clear V12 P12 KY12 B12 S12 K12 hown hgrow VA PA KA BA UA PSA K10 K11 GN
                                            as_aux_lemma =>
                                                go_wp2_with (first
                                                  | (refine slice1_tx rfl _ rfl cc.key rfl ?_)
                                                  | (at_builtin; refine wpList_append_one _ rfl _ _ 28 rfl PB 9 i1 (.string ⟨#[]⟩) 1 16 Try.underlying28 gi gz0 gz1 gz2 rfl (.slice ka ul kc) ul (kyL us) rfl KY13.out ⟨w12.heap.size, 0, none⟩ 1 [.string cc.key] rfl rfl ?qd2 ?qd3 ?qd4 (by omega) ?qd5 ?qd6 ?_))
                                                case qd2 =>
                                                  intro q x hx
                                                  have hn := (Bk.new w12 9 #[.string cc.key]).cell q
                                                  rw [Addr.add_lit, Nat.zero_add]
                                                  refine Eq.trans hn ?_
                                                  simpa using hx
                                                case qd3 => simp [Value.oneCell']
                                                case qd4 => have := ULB.out; unfold maxLen; omega
                                                case qd5 => have := ULB.out; omega
                                                case qd6 => exact S13.out
                                                intro v'' w14 hown hgrow
                                                have GN := GE.out
                                                have V14 := Lib.hid (V13.out.grown hgrow (fun k hk => by have := (ow_blk KY13.out hk).1; omega))
                                                have P14 := Lib.hid (ow_same P13.out (fun k hk => hgrow.block k (ow_blk P13.out hk).2.1 (fun e => ow_apart P13.out KY13.out (by decide) k hk e.symm)))
                                                have U14 := Lib.hid (ow_same U13.out (fun k hk => hgrow.block k (ow_blk U13.out hk).2.1 (fun e => ow_apart U13.out KY13.out (by decide) k hk e.symm)))
                                                have B14 := Lib.hid (bl_grow B13.out hgrow (fun k hk => by have := (ow_blk KY13.out hk).1; have := SZP.out; omega) B13.out.size)
                                                have S14 := Lib.hid (Nat.le_trans S13.out hgrow.size)
                                                have KY14 := Lib.hid hown
                                                clear hown hgrow V13 P13 KY13 B13 U13 S13 GN x4
                                                go_wp2
                                                go_roundw
                                                case rel => exact ⟨k + 1, M + 40, H2, pgl, ids2, R2, S2, us ++ [p], by have := HLT.out; omega, by go_num, HM2.out, V14.out, T9.out, HL2.out, S02.out, DN2.out, PS3.out, EK.out, by rw [← EY.out, ← EL.out]; exact KY14.out, by rw [← EU.out, ← EL.out]; exact U14.out, P14.out, B14.out, S14.out⟩
                                                case measure => have := HLT.out; simp [intOf]; omega
                        · obtain rfl : k = len2 := by omega
                          have ub : ul ≤ 9223372036854775807 := by have := UK.out; have := LL2.out; omega
                          have M1 := Lib.hid (show M ≤ 16005 by have := HM.out; have := LL2.out; omega)
                          have UL2 := Lib.hid (show ul ≤ 200 by have := UK.out; have := LL2.out; omega)
                          rw [← UL.out] at UO HL
                          clear hlt hk KO HM
                          as_aux_lemma =>
                              go_wp2_with fail
                              go_loopw [20] (fun j wr => ∃ (t M H : Nat) (pg2 : Nat → Pg) (ids2 : List Nat) (R2 : List (ByteArray × Ce)), t ≤ ul ∧ j = .int .i64 ((t : Int) - 1) ∧ M + t ≤ 17000 ∧ SV wr w1.heap.size g b gs r 256 M pg' pg2 ∧ Tl pg2 256 H ids2 R2 False ∧ (∀ x, lvS R2 x ↔ S t x) ∧ Pres R2 us ∧ wr.ownsRow PB 34 7 (.slice ua ul uc) ul (uL us) ∧ KOwn wr PB (.slice xa bl.length xc) bl ∧ Below w1.heap.size w1 wr) (fun j _ => (intOf j + 1).toNat)
                              case atStart => exact ⟨ul, M, H, pg', ids', R', Nat.le_refl _, rfl, by have := M1.out; have := UL2.out; omega, V.out, HT.out, HL.out, PRS.out, UO.out, PO.out, BW.out⟩
                              case round =>
                                clear V HT UO PO BW HL PRS M1
                                obtain ⟨t, M, H, pg2, ids2, R2, ht, rfl, hM, hs, htl, hL, hpr, hu, hp, hb⟩ := hrel
                                by_cases t0 : 0 < t
                                · obtain ⟨q, rfl⟩ : ∃ q, t = q + 1 := ⟨t - 1, by omega⟩
                                  rw [show ((q + 1 : Nat) : Int) - 1 = (q : Int) by omega]
                                  have HQ := Lib.hid ht
                                  have HMQ := Lib.hid hM
                                  have hqu : q < us.length := by rw [← UL.out]; omega
                                  obtain ⟨p, hp0⟩ : ∃ p, us[q]? = some p := ⟨_, List.getElem?_eq_getElem hqu⟩
                                  obtain ⟨d1, d2, d3⟩ := DON.out.at_ q p hp0
                                  obtain ⟨cx, hcx⟩ := hpr p (List.mem_of_getElem? hp0)
                                  obtain ⟨g2, cap2, e2, hr2⟩ := und_at (by rw [← UL.out]; exact hu) hp0
                                  rw [← UL.out] at e2
                                  obtain ⟨rfl, rfl⟩ : ua = some ⟨g2, 0, none⟩ ∧ uc = cap2 := by simpa using e2
                                  have RK := Lib.hid hr2
                                  have hq1 : q < ul := by omega
                                  have hqb : (q : Int) < (ul : Int) := by omega
                                  have hqn : ¬ (q : Int) < 0 := by omega
                                  have CR := Lib.hid (tl_res hs (Nat.le_refl _) htl (by unfold maxLen; omega) p.1 d1 p.2 d2 hcx)
                                  rw [show udK 1 p.1 p.2 = udOf p from rfl] at CR
                                  have HL2 := Lib.hid (fun (R3 : List (ByteArray × Ce)) (hr : RSet R2 R3 p.1 (backC p.2 cx)) x => ((set_back hr x).trans (backS_congr hL p.1 p.2 x)).trans (d3 x))
                                  have HP2 := Lib.hid hpr
                                  have UO := Lib.hid hu; have PO := Lib.hid hp; have BW := Lib.hid hb
                                  obtain ⟨u, hu2⟩ : ∃ u, u = udOf p := ⟨_, rfl⟩
                                  rw [← hu2] at CR RK
                                  clear hs htl hL hpr hu hp hb hr2 e2 hqu hp0 d1 d2 d3 hcx hu2 hM
                                  as_aux_lemma =>
                                      go_wp2_with (refine load_udo rfl _ rfl g2 (q * 7) u rfl RK.out ?_)
                                      refine CR.out.mono ?_
                                      rintro e w8 ⟨rfl, pg3, R3, hs, ht3, hr, hg⟩
                                      have V8 := Lib.hid hs; have T8 := Lib.hid ht3; have L8 := Lib.hid (HL2.out R3 hr); have P8' := Lib.hid (HP2.out.set hr)
                                      have U8 := Lib.hid (ow_grown UO.out hg (fun j hj => by cases hj; exact GE.out.2.1)); have P8 := Lib.hid (ow_grown PO.out hg (fun j hj => by cases hj; exact GE.out.2.1))
                                      have B8 := Lib.hid (bl_grow BW.out hg (fun j hj => by cases hj; exact BB.out.1) BW.out.size)
                                      clear hs ht3 hr hg CR UO PO BW RK HL2 HP2
                                      go_wp2
                                      go_roundw
                                      case rel => exact ⟨q, M + 1, H, pg3, ids2, R3, by have := HQ.out; omega, by first | rfl | go_num, by have := HMQ.out; omega, V8.out, T8.out, L8.out, P8'.out, U8.out, P8.out, B8.out⟩
                                      case measure => simp [intOf]
                                · obtain rfl : t = 0 := by omega
                                  rw [show ((0 : Nat) : Int) - 1 = -1 by omega]
                                  have BW := Lib.hid hb; have PO := Lib.hid hp
                                  have CLS := Lib.hid (tl_all hs (Nat.le_refl _) htl)
                                  rw [show rangeL R2 ⟨#[]⟩ 64 = bl from by rw [HBL.out]; exact live_ext htl T0.out (fun x => (hL x).trans (S0.out x)) _ _] at CLS
                                  clear hs htl hL hpr hu hp hb hM
                                  as_aux_lemma =>
                                      go_wp2_with fail
                                      refine CLS.out.mono ?_
                                      rintro e w9 ⟨x, rfl, ho2, hb2⟩
                                      have CS := Lib.hid (tsame_any (KOwn.at_ (show KOwn w9 PB (.slice xa bl.length xc) bl from ow_kept PO.out hb2)) (KOwn.at_ ho2) (by have := BLN.out; omega))
                                      have B9 := Lib.hid (below_then BW.out hb2 BW.out.size)
                                      clear ho2 hb2 CLS BW PO
                                      go_wp2_with fail
                                      refine CS.out.mono ?_
                                      rintro e w10 ⟨rfl, hb3⟩
                                      have B10 := Lib.hid (below_then B1.out (below_then B9.out hb3 B9.out.size) B1.out.size)
                                      clear hb3 CS B9
                                      go_wp2
                                      go_ret
                                      exact ⟨rfl, B10.out⟩
end Go.Proofs.Ytkehknokfenioaa
