/- PoolAgain. -/
import Derived.Test.YtgafajbdmegfgaaPolAgLib
set_option linter.unusedVariables false
set_option linter.unusedSimpArgs false
namespace Go.Proofs.Ytgafajbdmegfgaa
open Go.RowKit

theorem turn24 (wh : Int) : ∃ m : Nat, m < 24 ∧ (wrap64 (wh.tmod 24 + 24)).tmod 24 = (m : Int) := by
  have h1 := Int.tmod_lt_of_pos wh (show (0 : Int) < 24 by decide)
  have h2 := Int.lt_tmod_of_pos wh (show (0 : Int) < 24 by decide)
  generalize wh.tmod 24 = t at *
  have h3 : wrap64 (t + 24) = t + 24 := by first | go_num | (unfold wrap64; omega)
  rw [h3, Int.tmod_eq_emod_of_nonneg (by omega)]
  exact ⟨((t + 24) % 24).toNat, by omega, by omega⟩
theorem ag_laid {w0 w : World} {B gd gl gp pages frames F q : Nat} {Now : Nat → Pg} {St : Nat → Nat} {D : Int → Prop} {NB : Nat} {t : TypeId} {ps : List Pg} (hv : Vw w B gd gl gp pages frames F q Now St D) (ha : PArr w NB t ps) (pc : ¬ plI t) (hb : Below w0.heap.size w0 w) (hs : w0.heap.size ≤ NB) (j : Nat) (x : Pg) :
    Vw (w.setCells NB (j * 16) x.cs.toList) B gd gl gp pages frames F q Now St D ∧ Below w0.heap.size w0 (w.setCells NB (j * 16) x.cs.toList) := by
  have hg := setCells_only w NB (j * 16) x.cs.toList
  exact ⟨hv.other hg.size fun k t2 cs hc ht => hg.block k hc.lt fun e => by
    have e2 : k = NB := by injection e
    subst e2
    have e3 : t2 = t := Classical.byContradiction fun hne => Bk.ne_ hc ha hne rfl
    exact pc (e3 ▸ ht), bl_grow hb hg (fun k hk => by cases hk; exact hs) hb.size⟩
set_option maxRecDepth 100000 in
set_option maxHeartbeats 16000000 in
theorem walk_PoolAgain (v : Value) (cl : List Cp) (wh : Int) (w : World) (hq : IsCps w v cl) (hw1 : -9223372036854775808 ≤ wh) (hw2 : wh ≤ 9223372036854775807) :
    Calls Try.prog 5 #[v, .int .i64 wh] w fun e w' => e = .returned (.bool true) ∧ Below w.heap.size w w' := by
  have CAT := Lib.hid hq.at_; have CBD := Lib.hid hq.bd; have WH := Lib.hid (And.intro hw1 hw2)
  obtain ⟨aa, ac, rfl, -⟩ := CAT.out
  have hl0 := hq.len
  obtain ⟨len, hlen⟩ : ∃ len, len = cl.length := ⟨_, rfl⟩
  have HLN := Lib.hid hlen
  rw [← hlen] at hl0 ⊢
  have LM := Lib.hid (show len ≤ 9223372036854775807 by simp only [maxLen] at hl0; omega)
  clear hq hlen hl0 hw1 hw2
  have CA := Lib.hid (awake12_any w)
  go_enter Try.func5, Try.ntmps5
  go_wp2_with fail
  refine CA.out.mono ?_
  rintro e w1 ⟨rfl, hb⟩
  have B1 := Lib.hid hb; have SB := Lib.hid hb.size
  clear hb CA
  as_aux_lemma =>
    have CN := new_good 152 w1 (by omega) (by omega)
    rw [show ((152 : Nat) : Int) = 152 from rfl] at CN
    have CN := Lib.hid CN
    go_wp2_with fail
    refine CN.out.mono ?_
    rintro e w2 ⟨I, rfl, hd, hb⟩
    have D2 := Lib.hid hd; have B2 := Lib.hid hb
    have CC := create_good 152 0 128 hd (by omega) (by omega) (by omega) hb.size
    rw [show ((0 : Nat) : Int) = 0 from rfl, show ((128 : Nat) : Int) = 128 from rfl] at CC
    have CC := Lib.hid CC
    clear hd hb CN
    obtain ⟨gd, df, dn, dfc, dnc, dp⟩ := I
    unfold Ids.ptr at *
    dsimp only at *
    go_wp2_with fail
    refine CC.out.mono ?_
    rintro e w3 ⟨gl, p', rfl, hw, hb⟩
    have B3 := Lib.hid (B2.out.trans hb)
    have W3 := Lib.hid hw
    have CP := pnew_good hw 128 6 4 (by omega) (by omega) (by omega) (by omega) (by simp [Dsk.start, blanks]) (Nat.le_trans B2.out.size hb.size)
    unfold Ids.ptr Wd.ptr Ids.with at CP
    dsimp only at CP
    rw [show ((128 : Nat) : Int) = 128 from rfl, show ((6 : Nat) : Int) = 6 from rfl] at CP
    rw [show ((4 : Nat) : Int) = 4 from rfl] at CP
    have CP := Lib.hid CP
    clear hw hb CC B2 D2
    go_wp2_with fail
    refine CP.out.mono ?_
    rintro e w4 ⟨gp, rfl, hq, hb⟩
    have V4 := Lib.hid (show Vw w4 w1.heap.size gd gl gp 6 4 54 0 (fun _ => Pg.zero) (fun _ => 0) (fun _ => False) from Vw.new (by rfl) W3.out hb hq B3.out.size)
    have BB4 := Lib.hid (below_then B3.out hb B3.out.size)
    have B4 := Lib.hid (B1.out.trans ((below_then B3.out hb B3.out.size).mono B1.out.size))
    clear hq hb CP W3 B3
    as_aux_lemma =>
      --@Vt1
      by_cases c100 : (100 : Int) < (len : Int)
      · --@Vt2
        go_wp2
        go_ret
        exact ⟨rfl, B4.out⟩
      --@Vt3
      have LL := Lib.hid (show len ≤ 100 by omega)
      have V0 := Lib.hid (V4.out.weak (q' := 4102 * 54) (Nat.zero_le _) (D' := fun _ => True) (fun _ _ => trivial))
      clear V4 BB4 B1
      generalize w1.heap.size = Bs at *
      as_aux_lemma =>
        --@Vs1
        go_wp2_with fail
        --@Vs2
        go_loopw [57] (fun i wr => ∃ (j F : Nat) (Now : Nat → Pg) (St : Nat → Nat), j ≤ len ∧ i = .int .i64 j ∧ Vw wr Bs gd gl gp 6 4 F (4102 * F) Now St (fun _ => True) ∧ Below w.heap.size w wr) (fun i _ => len - (intOf i).toNat)
        case atStart =>
          --@Vas
          exact ⟨0, 54, fun _ => Pg.zero, fun _ => 0, Nat.zero_le _, rfl, V0.out, B4.out⟩
        case round =>
          --@Vrd
          clear V0 B4 c100
          obtain ⟨j, F, Now, St, hj, rfl, hv, hb⟩ := hrel
          have V := Lib.hid hv; have BW := Lib.hid hb
          clear hv hb
          by_cases hlt : j < len
          · --@Vl1
            have HLT := Lib.hid hlt
            have hjb : j < 9223372036854775807 := by have := LM.out; omega
            have hjc : j < cl.length := by rw [← HLN.out]; exact hlt
            obtain ⟨cc, hcc⟩ : ∃ cc, cc = cl[j] := ⟨_, rfl⟩
            have OK := Lib.hid (CBD.out _ (List.getElem_mem hjc))
            obtain ⟨a', c', e1, hat⟩ := CAT.out.below BW.out
            obtain ⟨b1, off, e2, hb1, hra⟩ := hat (by omega)
            rw [← HLN.out] at e1
            obtain ⟨rfl, rfl⟩ : aa = some ⟨b1, off, none⟩ ∧ ac = c' := by rw [e2] at e1; simpa using e1
            have RK := Lib.hid (hra j cl[j] (List.getElem?_eq_getElem hjc))
            rw [← hcc] at OK RK
            clear e1 hat e2 hb1 hra hcc hjc
            have V1 := Lib.hid (V.out.alloc (.cells cc.cs 42))
            have B1 := Lib.hid (BW.out.alloc BW.out.size (.cells cc.cs 42))
            have K1 := Lib.hid (Bk.new wr 42 cc.cs)
            clear V BW
            as_aux_lemma =>
              go_upto_region 11 with (first | (refine load_cp_off rfl _ rfl b1 off j cc rfl RK.out ?_) | (refine store_cp_new rfl _ _ rfl cc rfl rfl ?_))
              generalize wr.alloc (.cells cc.cs 42) = w7 at *
              clear RK
              obtain ⟨G, hG⟩ : ∃ G, G = wr.heap.size := ⟨_, rfl⟩
              rw [← hG] at K1 ⊢
              clear hG
              have FN := Lib.hid V1.out.fin_le
              have SZ := Lib.hid V1.out.hB
              have y3 : w7.cell? ⟨G, 18, none⟩ = some (.string cc.v) := K1.out.cell 18
              have PCT := Lib.hid (show ¬ plI 42 by unfold plI plT; decide)
              have CAp := Lib.hid (vw_append V1.out cc.v OK.out.len)
              have hap := apF_cases FN.out.2 cc.v.size
              obtain ⟨⟨F2, at_, er⟩, hrr⟩ : ∃ r, r = apF F cc.v.size := ⟨_, rfl⟩
              rw [← hrr] at CAp hap
              dsimp only at CAp hap
              clear hrr
              as_aux_lemma =>
                go_wp2_with fail
                refine CAp.out.mono ?_
                rintro e w8 ⟨rfl, hv, ho⟩
                have V8 := Lib.hid hv; have K8 := Lib.hid (bk_pi ho K1.out PCT.out); have B8 := Lib.hid (B1.out.trans ((pi_below ho SZ.out).mono SB.out))
                clear hv ho CAp V1 K1 B1 y3
                as_aux_lemma =>
                  rcases hap with ⟨rfl, hF2, hat⟩ | ⟨hne, hFe⟩
                  · have HAT := Lib.hid hat; have HF2 := Lib.hid hF2
                    clear hat hF2
                    have z1 : w8.cell? ⟨G, 1, none⟩ = some (.int .i64 cc.id) := K8.out.cell 1
                    have CPu := Lib.hid (vw_put V8.out cc.id cc.p at_ (by have := FN.out; have := HAT.out; omega) (by have := FN.out; omega))
                    go_wp2_with (refine load_cpp rfl _ rfl G cc rfl K8.out ?_)
                    refine CPu.out.mono ?_
                    rintro e w9 ⟨hpost, ho⟩
                    have B9 := Lib.hid (B8.out.trans ((pi_below ho V8.out.hB).mono SB.out))
                    obtain ⟨er, Now2, St2, rfl, hv⟩ : ∃ (er : Int) (Now2 : Nat → Pg) (St2 : Nat → Nat), e = .returned (.int .i64 er) ∧ Vw w9 Bs gd gl gp 6 4 F2 (4102 * F2) Now2 St2 (fun _ => True) := by
                      rcases hpost with ⟨-, rfl, hv⟩ | ⟨-, rfl, hv⟩
                      · exact ⟨0, _, _, rfl, hv.weak (by have := HF2.out; omega) (fun _ _ => trivial)⟩
                      · exact ⟨1, _, _, rfl, hv.weak (by have := HF2.out; omega) (fun _ _ => trivial)⟩
                    have V9 := Lib.hid hv
                    clear hv ho CPu V8 K8 z1 hpost B8
                    go_wp2
                    go_roundw
                    case rel => exact ⟨j + 1, F2, Now2, St2, by have := HLT.out; omega, by go_num, V9.out, B9.out⟩
                    case measure => have := HLT.out; simp [intOf]; omega
                  · have hnb : (er == 0) = false := by simp [hne]
                    have V9 := Lib.hid (V8.out.weak (q' := 4102 * F2) (by omega) (fun _ h => h))
                    clear hFe hne V8 K8
                    go_wp2
                    go_roundw
                    case rel => exact ⟨j + 1, F2, Now, St, by have := HLT.out; omega, by go_num, V9.out, B8.out⟩
                    case measure => have := HLT.out; simp [intOf]; omega
          · --@Va1
            obtain rfl : j = len := by omega
            clear hlt hj CAT CBD
            have FN := Lib.hid V.out.fin_le
            have PCA := Lib.hid (show ¬ plI 58 by unfold plI plT; decide)
            have PCP := Lib.hid (show ¬ plI 40 by unfold plI plT; decide)
            obtain ⟨ps0, hps0⟩ : ∃ ps0, ps0 = List.replicate 6 Pg.zero := ⟨_, rfl⟩
            have V1 := Lib.hid (V.out.alloc (.cells (flatPg ps0).toArray 58))
            have B1 := Lib.hid (BW.out.alloc BW.out.size (.cells (flatPg ps0).toArray 58))
            have A1 := Lib.hid (show PArr (wr.alloc (.cells (flatPg ps0).toArray 58)) wr.heap.size 58 ps0 from Bk.new wr 58 (flatPg ps0).toArray)
            have L6 := Lib.hid (show ps0.length = 6 from by rw [hps0]; rfl)
            have WS := Lib.hid BW.out.size
            clear V BW
            as_aux_lemma =>
              go_upto_region 16 with fail
              change Code.wp _ _ _ _ (wr.alloc (.cells (flatPg (List.replicate 6 Pg.zero)).toArray 58))
              rw [← hps0]
              generalize wr.alloc (.cells (flatPg ps0).toArray 58) = w2 at *
              obtain ⟨NB, hNB⟩ : ∃ NB, NB = wr.heap.size := ⟨_, rfl⟩
              rw [← hNB] at A1 WS ⊢
              clear hNB hps0
              as_aux_lemma =>
                go_wp2_with fail
                go_loopw [78] (fun i wr => ∃ (j : Nat) (ps : List Pg), j ≤ 6 ∧ i = .int .i64 j ∧ Vw wr Bs gd gl gp 6 4 F (4102 * F) Now St (fun _ => True) ∧ PArr wr NB 58 ps ∧ ps.length = 6 ∧ (∀ k, k < j → ps[k]? = some (Now k)) ∧ Below w.heap.size w wr) (fun i _ => 6 - (intOf i).toNat)
                case atStart => exact ⟨0, ps0, Nat.zero_le _, rfl, V1.out, A1.out, L6.out, fun k hk => absurd hk (Nat.not_lt_zero k), B1.out⟩
                case round =>
                  clear V1 A1 B1 L6
                  obtain ⟨j, ps, hj, rfl, hv, ha, hl, hp, hb⟩ := hrel
                  have V := Lib.hid hv; have AR := Lib.hid ha; have PL := Lib.hid hl; have PP := Lib.hid hp; have BW := Lib.hid hb
                  clear hv ha hl hp hb
                  by_cases hlt : j < 6
                  · --@Vl2
                    have HLT := Lib.hid hlt
                    have CG := Lib.hid (vw_get V.out (j : Int))
                    as_aux_lemma =>
                      go_wp2_with fail
                      refine CG.out.mono ?_
                      rintro e w9 ⟨he, hv, ho⟩
                      obtain rfl : e = .returned (.tuple #[.agg (Now j).cs, .int .i64 0]) := by
                        rcases he with ⟨-, -, rfl⟩ | ⟨h1, -⟩
                        · rfl
                        · exact absurd ⟨by omega, by have := HLT.out; omega⟩ h1
                      have V9 := Lib.hid hv
                      have A9 := Lib.hid (show PArr w9 NB 58 ps from bk_pi ho AR.out PCA.out)
                      have B9 := Lib.hid (BW.out.trans ((pi_below ho V.out.hB).mono SB.out))
                      clear hv ho he CG V AR BW
                      have hj3 : (j : Int) < 6 := by omega
                      have hj4 : ¬ (j : Int) < 0 := by omega
                      have AL := Lib.hid (ag_laid V9.out A9.out PCA.out B9.out WS.out j (Now j))
                      as_aux_lemma =>
                        go_wp2_with (refine store_arr_at rfl _ _ rfl NB 58 ps j (Now j) (by rw [PL.out]; exact HLT.out) rfl rfl A9.out ?_; intro ha; have AN := Lib.hid ha; clear ha V9 A9 B9; generalize w9.setCells NB (j * 16) (Now j).cs.toList = w10 at *)
                        go_roundw
                        case rel => exact ⟨j + 1, ps.set j (Now j), by have := HLT.out; omega, by go_num, AL.out.1, AN.out, by rw [List.length_set]; exact PL.out, fun k hk => by
                          by_cases e : k = j
                          · subst e; rw [List.getElem?_set_self (by rw [PL.out]; exact HLT.out)]
                          · rw [List.getElem?_set_ne (Ne.symm e)]; exact PP.out k (by omega), AL.out.2⟩
                        case measure => have := HLT.out; simp [intOf]; omega
                  · --@Va2
                    obtain rfl : j = 6 := by omega
                    rw [show ((6 : Nat) : Int) = 6 from rfl]
                    clear hlt hj
                    have CF := Lib.hid (vw_flush V.out (by have := FN.out; omega))
                    as_aux_lemma =>
                      go_wp2_with fail
                      refine CF.out.mono ?_
                      rintro e w9 ⟨rfl, hv, ho, -⟩
                      have V9 := Lib.hid hv
                      have A9 := Lib.hid (show PArr w9 NB 58 ps from bk_pi ho AR.out PCA.out)
                      have B9 := Lib.hid (BW.out.trans ((pi_below ho V.out.hB).mono SB.out))
                      have CN := vw_again V9.out 5 (by omega) (by omega)
                      rw [show ((5 : Nat) : Int) = 5 from rfl, show ((6 : Nat) : Int) = 6 from rfl] at CN
                      have CN := Lib.hid CN
                      clear hv ho CF V AR BW V9
                      as_aux_lemma =>
                        go_wp2_with fail
                        refine CN.out.mono ?_
                        rintro e w10 ⟨gq, rfl, hv, hb⟩
                        have VA := Lib.hid hv
                        have AA := Lib.hid (show PArr w10 NB 58 ps from Bk.kept A9.out hb)
                        have BA := Lib.hid (below_then B9.out hb B9.out.size)
                        clear hv hb CN A9 B9
                        as_aux_lemma =>
                          go_wp2_with fail
                          go_loopw [101] (fun i wr => ∃ (j : Nat), j ≤ 6 ∧ i = .int .i64 j ∧ Vw wr Bs gd gl gq 6 5 F 0 Now St (fun _ => False) ∧ PArr wr NB 58 ps ∧ Below w.heap.size w wr) (fun i _ => 6 - (intOf i).toNat)
                          case atStart => exact ⟨0, Nat.zero_le _, rfl, VA.out, AA.out, BA.out⟩
                          case round =>
                            clear VA AA BA
                            obtain ⟨i, hi, rfl, hv, ha, hb⟩ := hrel
                            have V := Lib.hid hv; have AR := Lib.hid ha; have BW := Lib.hid hb
                            clear hv ha hb
                            by_cases hlt : i < 6
                            · --@Vl3
                              have HLT := Lib.hid hlt
                              have CG := Lib.hid (vw_get V.out (i : Int))
                              as_aux_lemma =>
                                go_wp2_with fail
                                refine CG.out.mono ?_
                                rintro e w9 ⟨he, hv, ho⟩
                                obtain rfl : e = .returned (.tuple #[.agg (Now i).cs, .int .i64 0]) := by
                                  rcases he with ⟨-, -, rfl⟩ | ⟨h1, -⟩
                                  · rfl
                                  · exact absurd ⟨by omega, by have := HLT.out; omega⟩ h1
                                have V9 := Lib.hid (hv.alloc (.cells (Now i).cs 40))
                                have A9 := Lib.hid (show PArr (w9.alloc (.cells (Now i).cs 40)) NB 58 ps from (bk_pi ho AR.out PCA.out).alloc _)
                                have B9a := BW.out.trans ((pi_below ho V.out.hB).mono SB.out)
                                have B9 := Lib.hid (B9a.alloc B9a.size (.cells (Now i).cs 40))
                                have K9 := Lib.hid (Bk.new w9 40 (Now i).cs)
                                obtain ⟨PB, hPB⟩ : ∃ PB, PB = w9.heap.size := ⟨_, rfl⟩
                                rw [← hPB] at K9
                                have HPB := Lib.hid hPB
                                clear hv ho he CG V AR BW B9a hPB
                                have hi3 : (i : Int) < 6 := by omega
                                have hi4 : ¬ (i : Int) < 0 := by omega
                                have hi5 : (i : Int).toNat = i := by omega
                                as_aux_lemma =>
                                  go_upto_region 30 with (refine store_page_new rfl _ _ rfl (Now i) rfl rfl ?_; rw [← HPB.out]; clear HPB; generalize w9.alloc (.cells (Now i).cs 40) = w10 at *)
                                  obtain ⟨wv, hwv⟩ : ∃ wv, wv = w10.drew := ⟨_, rfl⟩
                                  have HWV := Lib.hid hwv.symm
                                  have P0 := Lib.hid (show Bk wv PB 40 (Now i).cs from by rw [hwv]; exact K9.out.drew)
                                  have P1 := Lib.hid (show wv.rangeAt NB (i * 16) (Now i).cs.toList from by rw [hwv]; exact PArr.range (w := w10.drew) A9.out (PP.out i HLT.out))
                                  have VV := Lib.hid (show Vw wv Bs gd gl gq 6 5 F 0 Now St (fun _ => False) from by rw [hwv]; exact V9.out.kept (below_drewN (Below.refl w10.heap.size w10) 1))
                                  have AV := Lib.hid (show PArr wv NB 58 ps from by rw [hwv]; exact A9.out)
                                  have BV := Lib.hid (show Below w.heap.size w wv from by rw [hwv]; exact below_drewN B9.out 1)
                                  clear hwv V9 A9 B9 K9
                                  as_aux_lemma =>
                                    refine wp_region_held (S := fun w' => w' = wv) (by kernel_rfl) ?_
                                    show wpAnyH _ _ _ _ _ _ _ _ w10.drew
                                    rw [HWV.out]
                                    refine pk_take (fuel := 8) (i := 0) 110 rfl rfl (by kernel_rfl) (by kernel_rfl) (by kernel_rfl) (fun _ _ _ h => h) (pk_move _ rfl (by kernel_rfl)) rfl ?_
                                    simp only [Act.put, Act.eval, List.setIfInBounds_toArray, List.set_cons_succ, List.set_cons_zero]
                                    refine pk_take (fuel := 7) (i := 1) (v := .bool false) 111 rfl rfl (by kernel_rfl) (by kernel_rfl) (by kernel_rfl) (fun _ _ _ h => h) (by refine .inl ⟨by kernel_rfl, fun wx hx => ?_⟩; subst hx; unfold execOp; go_simp) rfl ?_
                                    simp only [Act.put, Act.eval, List.setIfInBounds_toArray, List.set_cons_succ, List.set_cons_zero]
                                    refine pk_take (fuel := 6) (i := 2) 112 rfl rfl (by kernel_rfl) (by kernel_rfl) (by kernel_rfl) (fun _ _ _ h => h) (pk_move _ rfl (by kernel_rfl)) rfl ?_
                                    simp only [Act.put, Act.eval, List.setIfInBounds_toArray, List.set_cons_succ, List.set_cons_zero]
                                    refine pk_take (fuel := 5) (i := 3) (v := .agg (Now i).cs) 113 rfl rfl (by kernel_rfl) (by kernel_rfl) (by kernel_rfl) (fun _ _ _ h => h) (pk_page _ rfl (by kernel_rfl) PB (Now i) rfl (fun w h => h ▸ P0.out)) rfl ?_
                                    simp only [Act.put, Act.eval, List.setIfInBounds_toArray, List.set_cons_succ, List.set_cons_zero]
                                    refine pk_take (fuel := 4) (i := 4) 114 rfl rfl (by kernel_rfl) (by kernel_rfl) (by kernel_rfl) (fun _ _ _ h => h) (pk_move _ rfl (by kernel_rfl)) rfl ?_
                                    simp only [Act.put, Act.eval, List.setIfInBounds_toArray, List.set_cons_succ, List.set_cons_zero]
                                    refine pk_take (fuel := 3) (i := 5) (v := .pointer (some ⟨NB, i * 16, none⟩)) 115 rfl rfl (by kernel_rfl) (by kernel_rfl) (by kernel_rfl) (fun _ _ _ h => h) (by refine .inl ⟨by kernel_rfl, fun wx hx => ?_⟩; subst hx; unfold execOp; go_simp) rfl ?_
                                    simp only [Act.put, Act.eval, List.setIfInBounds_toArray, List.set_cons_succ, List.set_cons_zero]
                                    refine pk_take (fuel := 2) (i := 6) (v := .agg (Now i).cs) 116 rfl rfl (by kernel_rfl) (by kernel_rfl) (by kernel_rfl) (fun _ _ _ h => h) (pk_page_at _ rfl (by kernel_rfl) NB (i * 16) (Now i) rfl (fun w h => h ▸ P1.out)) rfl ?_
                                    simp only [Act.put, Act.eval, List.setIfInBounds_toArray, List.set_cons_succ, List.set_cons_zero]
                                    refine pk_take (fuel := 1) (i := 7) (v := .bool (!(pgB (Now i) (Now i)))) 117 rfl rfl (by kernel_rfl) (by kernel_rfl) (by kernel_rfl) (fun _ _ _ h => h) (pk_neq _ _ _ rfl (by kernel_rfl) (Now i) (Now i) rfl rfl) rfl ?_
                                    simp only [Act.put, Act.eval, List.setIfInBounds_toArray, List.set_cons_succ, List.set_cons_zero]
                                    rw [pgB_self]
                                    simp only [Bool.not_true]
                                    refine pk_take (fuel := 0) (i := 8) (v := .bool false) 118 rfl rfl (by kernel_rfl) (by kernel_rfl) (by kernel_rfl) (fun _ _ _ h => h) (by refine .inl ⟨by kernel_rfl, fun wx hx => ?_⟩; subst hx; unfold execOp; go_simp) rfl ?_
                                    simp only [Act.put, Act.eval, List.setIfInBounds_toArray, List.set_cons_succ, List.set_cons_zero]
                                    refine wpAnyH_done (by kernel_rfl) ?_ _
                                    (try simp only [Act.put, Act.eval, List.setIfInBounds_toArray, List.set_cons_succ, List.set_cons_zero])
                                    clear HWV P0 P1
                                    go_wp2
                                    go_roundw
                                    case rel => exact ⟨i + 1, by have := HLT.out; omega, by go_num, VV.out, AV.out, BV.out⟩
                                    case measure => have := HLT.out; simp [intOf]; omega
                            · --@Va3
                              obtain rfl : i = 6 := by omega
                              rw [show ((6 : Nat) : Int) = 6 from rfl]
                              clear hlt hi AR PP PL
                              as_aux_lemma =>
                                obtain ⟨m, hm24, hm⟩ := turn24 wh
                                go_upto_region 34 with fail
                                try rw [hm]
                                have HM := Lib.hid hm24
                                obtain ⟨d, hd, hr⟩ := vw_sector V.out m (by omega)
                                obtain ⟨s, hs⟩ : ∃ s, s = Fr.sec d.bytes (Fr.mk (St (m / 4))) (m % 4) := ⟨_, rfl⟩
                                have S64 := Lib.hid (show s.size = 64 from by rw [hs]; exact Fr.sec_size (bytes_size d hd) mark_of (by omega))
                                have STL := Lib.hid (show Fr.tl s = Fr.mk (St (m / 4)) from by rw [hs]; exact Fr.sec_tl (bytes_size d hd) (by omega))
                                rw [← hs] at hr
                                have CR := Lib.hid hr
                                obtain ⟨k4, hk4⟩ : ∃ k4, k4 = m / 4 := ⟨_, rfl⟩
                                have K4 := Lib.hid hk4
                                clear hm hm24 hd hr hs hk4 WH
                                have hmb : (m : Int) < 24 := by have := HM.out; omega
                                as_aux_lemma =>
                                  go_wp2_with fail
                                  refine CR.out.mono ?_
                                  rintro e w9 ⟨rfl, rfl⟩
                                  clear CR
                                  as_aux_lemma =>
                                    go_upto_region 36 with (refine conv_bytes rfl _ rfl s rfl ?_; intro cap w1 hb1 hby)
                                    rw [S64.out]
                                    have BD := Lib.hid hb1
                                    have Y1 := Lib.hid hby
                                    obtain ⟨H, hH⟩ : ∃ H, H = w9.heap.size := ⟨_, rfl⟩
                                    rw [← hH] at Y1 ⊢
                                    obtain ⟨x, hx⟩ : ∃ x, x = s.data.getD 60 0 := ⟨_, rfl⟩
                                    have c60 : w1.cell? ⟨H, 60, none⟩ = some (.int .u8 x.toNat) := by rw [hx]; exact Y1.out.cell (by rw [S64.out]; decide)
                                    have f60 : w1.frozen? ⟨H, 60, none⟩ = false := Y1.out.fz (by rw [S64.out]; decide)
                                    have Y2 := Lib.hid (Y1.out.set 60 (x ^^^ 1) (by rw [S64.out]; decide))
                                    have BD2 := Lib.hid (BD.out.setCell (p := ⟨H, 60, none⟩) (Nat.le_of_eq hH.symm) (.int .u8 ((x ^^^ 1).toNat : Nat)))
                                    have V2 := Lib.hid (V.out.kept BD2.out)
                                    have B2 := Lib.hid (below_then BW.out BD2.out BW.out.size)
                                    have TT := Lib.hid (tl_turned s S64.out)
                                    rw [← hx] at TT
                                    obtain ⟨s2, hs2⟩ : ∃ s2, s2 = (⟨s.data.setIfInBounds 60 (x ^^^ 1)⟩ : ByteArray) := ⟨_, rfl⟩
                                    rw [← hs2] at TT Y2
                                    have Z64 := Lib.hid (show (64 : Nat) = s2.size from by rw [hs2]; show 64 = (s.data.setIfInBounds _ _).size; rw [Array.size_setIfInBounds]; exact S64.out.symm)
                                    have p1 := xor_bit x
                                    obtain ⟨y, hy⟩ : ∃ y, y = x ^^^ 1 := ⟨_, rfl⟩
                                    rw [← hy] at p1 Y2 V2 B2
                                    have CW := Lib.hid (vw_spoil V2.out (by omega) m (by have := HM.out; omega) s2 Z64.out.symm (by rw [← STL.out]; exact TT.out))
                                    clear hb1 hby hx hs2 hy BD Y1 BD2 V BW hH
                                    as_aux_lemma =>
                                      go_upto_region 37 with fail
                                      generalize w1.setCell ⟨H, 60, none⟩ (.int .u8 (y.toNat : Int)) = w2 at *
                                      clear c60 f60 p1
                                      go_wp2_with (refine conv_back rfl _ rfl H s2 64 cap Z64.out rfl Y2.out ?_)
                                      refine CW.out.mono ?_
                                      rintro e w3 ⟨⟨er, rfl⟩, hsd, hb⟩
                                      rw [← K4.out] at hsd
                                      have B3 := Lib.hid (B2.out.trans (hb.mono SB.out))
                                      have CN := sd_new hsd 5 (by omega) (by omega)
                                      rw [show ((5 : Nat) : Int) = 5 from rfl, show ((6 : Nat) : Int) = 6 from rfl] at CN
                                      have CN := Lib.hid CN
                                      clear hsd hb CW V2 B2 Y2
                                      as_aux_lemma =>
                                        go_wp2_with fail
                                        refine CN.out.mono ?_
                                        rintro e w4 ⟨g2, rfl, hsq, hb⟩
                                        have B4 := Lib.hid (below_then B3.out hb B3.out.size)
                                        have CG := Lib.hid (sq_get hsq (by have := HM.out; have := K4.out; omega))
                                        have q4 : (m : Int).tdiv 4 = (k4 : Int) := by rw [Int.tdiv_eq_ediv_of_nonneg (by omega)]; have := K4.out; omega
                                        have q5 : (m : Int) / 4 = (k4 : Int) := by have := K4.out; omega
                                        clear hsq hb CN B3
                                        as_aux_lemma =>
                                          go_wp2_with fail
                                          refine CG.out.mono ?_
                                          rintro e w5 ⟨⟨x5, rfl⟩, hb⟩
                                          have B5a := B4.out.trans (hb.mono SB.out)
                                          have B5 := Lib.hid (B5a.alloc B5a.size (.cells x5.cs 40))
                                          clear hb CG B4 B5a
                                          as_aux_lemma =>
                                            go_wp2_with (refine store_page_new rfl _ _ rfl x5 rfl rfl ?_; generalize w5.alloc (.cells x5.cs 40) = w6 at *)
                                            go_ret
                                            exact ⟨rfl, B5.out⟩
end Go.Proofs.Ytgafajbdmegfgaa
