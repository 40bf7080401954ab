/- PoolRuns, walked. -/
import Derived.Test.YtgafajbdmegfgaaPolTh
set_option linter.unusedVariables false
set_option linter.unusedSimpArgs false
namespace Go.Proofs.Ytgafajbdmegfgaa
open Go.RowKit

theorem bk_pz {w w' : World} {B Z k : Nat} {t : TypeId} {cs : Array Value} (h : Out w w' (PZ B Z w)) (hk : Bk w k t cs) (ht : ¬ plI t) : Bk w' k t cs :=
  h.bk hk fun hp => by
    obtain ⟨⟨-, t2, cs2, hc, h2⟩, -⟩ := hp
    have e : t = t2 := Classical.byContradiction fun hne => Bk.ne_ hk hc hne rfl
    exact ht (e ▸ h2)
set_option maxRecDepth 100000 in
set_option maxHeartbeats 24000000 in
theorem walk_PoolRuns (pg f : Int) (v : Value) (cl : List Cp) (w : World) (ha1 : -9223372036854775808 ≤ pg) (ha2 : pg ≤ 9223372036854775807) (hb1 : -9223372036854775808 ≤ f) (hb2 : f ≤ 9223372036854775807) (hq : IsCps w v cl) :
    Calls Try.prog 3 #[.int .i64 pg, .int .i64 f, v] w fun e w' => e = .returned (.bool true) ∧ Below w.heap.size w w' := by
  have CAT := Lib.hid hq.at_; have CBD := Lib.hid hq.bd
  obtain ⟨aa, ac, rfl, -⟩ := CAT.out
  have hl0 := hq.len
  obtain ⟨len, hlen⟩ : ∃ len, len = cl.length := ⟨_, rfl⟩
  have HLN := Lib.hid hlen
  rw [← hlen] at hl0 ⊢
  have LM := Lib.hid (show len ≤ 9223372036854775807 by simp only [maxLen] at hl0; omega)
  clear hq hlen hl0
  have CA := Lib.hid (awake12_any w)
  go_enter Try.func3, Try.ntmps3
  go_wp2_with fail
  refine CA.out.mono ?_
  rintro e w1 ⟨rfl, hb⟩
  have B1 := Lib.hid hb; have SB := Lib.hid hb.size
  clear hb CA
  as_aux_lemma =>
    by_cases c64 : 64 < pg
    · go_wp2
      go_ret
      exact ⟨rfl, B1.out⟩
    obtain ⟨pn, hmx, hpn⟩ : ∃ pn : Nat, max pg 1 = (pn : Int) ∧ 1 ≤ pn ∧ pn ≤ 64 := ⟨(max pg 1).toNat, by omega, by omega, by omega⟩
    have PN := Lib.hid hpn; have MX := Lib.hid hmx
    have hpb : (pn : Int) ≤ 64 := by omega
    clear hpn
    as_aux_lemma =>
      have CN := new_good (128 + 4 * pn) w1 (by omega) (by have := PN.out; omega)
      rw [show ((128 + 4 * pn : Nat) : Int) = 128 + 4 * (pn : Int) by omega] at CN
      have CN := Lib.hid CN
      go_wp2_with fail
      refine CN.out.mono ?_
      rintro e w2 ⟨I, rfl, hd, hb⟩
      have D2 := Lib.hid hd; have B2 := Lib.hid hb
      have CC := create_good (128 + 4 * pn) 0 128 hd (by omega) (by omega) (by omega) hb.size
      rw [show ((0 : Nat) : Int) = 0 from rfl, show ((128 : Nat) : Int) = 128 from rfl] at CC
      have CC := Lib.hid CC
      clear hd hb CN
      obtain ⟨gd, df, dn, dfc, dnc, dp⟩ := I
      unfold Ids.ptr at *
      dsimp only at *
      go_wp2_with fail
      refine CC.out.mono ?_
      rintro e w3 ⟨gl, p', rfl, hw, hb⟩
      have B3 := Lib.hid (B2.out.trans hb)
      have W3 := Lib.hid hw
      clear hw hb CC B2 D2
      clear hmx
      by_cases hbad : pg < 1 ∨ (f < 4 ∨ 256 < f)
      · --@Vbad
        have CP := Lib.hid (pnew_bad gd gl 128 pg f w3 (by rcases hbad with h | h; exact .inl h; by_cases h1 : pg < 1; exact .inl h1; refine .inr ⟨by omega, ?_⟩; rcases h with h | h; exact .inl h; exact .inr ⟨by omega, h⟩))
        go_wp2_with fail
        refine CP.out.mono ?_
        rintro e w4 ⟨rfl, rfl⟩
        have BW := Lib.hid (B1.out.trans (B3.out.mono SB.out))
        clear CP
        by_cases h1 : pg < 1
        · go_wp2
          go_ret
          exact ⟨rfl, BW.out⟩
        by_cases h2 : f < 4
        · go_wp2
          go_ret
          exact ⟨rfl, BW.out⟩
        · have h3 : 256 < f := by omega
          go_wp2
          go_ret
          exact ⟨rfl, BW.out⟩
      have hpg : pg = (pn : Int) := by have := MX.out; omega
      subst hpg
      obtain ⟨frn, rfl⟩ : ∃ frn : Nat, f = (frn : Int) := ⟨f.toNat, by omega⟩
      have FR := Lib.hid (show 4 ≤ frn ∧ frn ≤ 256 by omega)
      have n1 : ¬ (pn : Int) < 1 := by omega
      have n2 : ¬ (frn : Int) < 4 := by omega
      have n3 : ¬ (256 : Int) < (frn : Int) := by omega
      clear hbad MX
      have CP := pnew_good W3.out 128 pn frn (by have := PN.out; omega) (by have := PN.out; omega) (by have := FR.out; omega) (by have := FR.out; omega) (by simp [Dsk.start, blanks]) B3.out.size
      unfold Ids.ptr Wd.ptr Ids.with at CP
      dsimp only at CP
      rw [show ((128 : Nat) : Int) = 128 from rfl] at CP
      have CP := Lib.hid CP
      go_wp2_with fail
      refine CP.out.mono ?_
      rintro e w4 ⟨gp, rfl, hq, hb⟩
      have V4 := Lib.hid (show Vw w4 w1.heap.size gd gl gp pn frn 54 0 (fun _ => Pg.zero) (fun _ => 0) (fun _ => False) from Vw.new (by rfl) W3.out hb hq B3.out.size)
      have BB4 := Lib.hid (below_then B3.out hb B3.out.size)
      have B4 := Lib.hid (B1.out.trans ((below_then B3.out hb B3.out.size).mono B1.out.size))
      clear hq hb CP W3 B3
      have CN := Lib.hid (rf_new pn w4 (by have := PN.out; omega) (by have := PN.out; omega))
      as_aux_lemma =>
        go_wp2_with fail
        refine CN.out.mono ?_
        rintro e w5 ⟨R, NB, Z, rfl, hr, hb⟩
        have HBs := Lib.hid BB4.out.size
        have I5 := Lib.hid (show RnI w w5 w1.heap.size gd gl gp pn frn 54 (4102 * 54) R NB Z (fun _ => Pg.zero) (fun _ => 0) (List.replicate pn Pg.zero) (List.replicate pn 0) False from
          ⟨(Vz.of V4.out hr.bb.2.2 hb hr.stp.lt).weak (Nat.zero_le _) (fun h => h.elim), ⟨hr.box, hr.now, hr.stp, hr.pl, hr.sl, by have := hr.bb; have := HBs.out; omega⟩, fun i hi => ⟨Pg.zero, by rw [List.getElem?_replicate, if_pos hi], rfl⟩, fun i hi => by rw [List.getElem?_replicate, if_pos hi], below_then B4.out hb B4.out.size⟩)
        have PCT := Lib.hid (show ¬ plI 42 by unfold plI plT; decide)
        have PCP := Lib.hid (show ¬ plI 40 by unfold plI plT; decide)
        clear hr hb CN V4 B4 BB4 HBs B1 n1 n2 n3 c64
        generalize w1.heap.size = Bs at *
        as_aux_lemma =>
          go_wp2_with fail
          go_loopw [74] (fun i wr => ∃ (j F : Nat) (Now : Nat → Pg) (St : Nat → Nat) (ps : List Pg) (st : List Nat), j ≤ len ∧ i = .int .i64 j ∧ RnI w wr Bs gd gl gp pn frn F (4102 * F) R NB Z Now St ps st False) (fun i _ => len - (intOf i).toNat)
          case atStart => exact ⟨0, 54, _, _, _, _, Nat.zero_le _, rfl, I5.out⟩
          case round =>
            clear I5
            obtain ⟨j, F, Now, St, ps, st, hj, rfl, hI⟩ := hrel
            have II := Lib.hid hI
            clear hI
            by_cases hlt : j < len
            · --@Vround
              have HLT := Lib.hid hlt
              have hjb : j < 9223372036854775807 := by have := LM.out; omega
              have hjc : j < cl.length := by rw [← HLN.out]; exact hlt
              obtain ⟨cc, hcc⟩ : ∃ cc, cc = cl[j] := ⟨_, rfl⟩
              have OK := Lib.hid (CBD.out _ (List.getElem_mem hjc))
              obtain ⟨a', c', e1, hat⟩ := CAT.out.below II.out.bw
              obtain ⟨b1, off, e2, hb1, hra⟩ := hat (by omega)
              rw [← HLN.out] at e1
              obtain ⟨rfl, rfl⟩ : aa = some ⟨b1, off, none⟩ ∧ ac = c' := by rw [e2] at e1; simpa using e1
              have RK := Lib.hid (hra j cl[j] (List.getElem?_eq_getElem hjc))
              rw [← hcc] at OK RK
              clear e1 hat e2 hb1 hra hcc hjc
              have I1 := Lib.hid (II.out.alloc (.cells cc.cs 42))
              have K1 := Lib.hid (Bk.new wr 42 cc.cs)
              clear II
              as_aux_lemma =>
                go_upto_region 16 with (first | (refine load_cp_off rfl _ rfl b1 off j cc rfl RK.out ?_) | (refine store_cp_new rfl _ _ rfl cc rfl rfl ?_))
                generalize wr.alloc (.cells cc.cs 42) = w7 at *
                clear RK
                obtain ⟨G, hG⟩ : ∃ G, G = wr.heap.size := ⟨_, rfl⟩
                rw [← hG] at K1 ⊢
                clear hG
                have FN := Lib.hid (show 54 ≤ F ∧ F ≤ 6966 from by obtain ⟨D, h⟩ := I1.out.vz.vw; exact h.fin_le)
                have y0 : w7.cell? ⟨G, 0, none⟩ = some (.int .i64 cc.k) := K1.out.cell 0
                have y1 : w7.cell? ⟨G, 1, none⟩ = some (.int .i64 cc.id) := K1.out.cell 1
                by_cases k0 : cc.k = 0
                · --@Vk0
                  have k0b : (cc.k == 0) = true := by simp [k0]
                  obtain ⟨x, er, -, -, hge⟩ := I1.out.get cc.id
                  have GE := Lib.hid hge
                  have CG := Lib.hid (vz_get I1.out.vz I1.out.hz cc.id)
                  have pe : ∀ w, (binOp .neq 40 (.agg x.cs) (.agg x.cs)).run Try.prog w = .ok (.bool false) w := fun w => by have := page_neq x x w; rw [pgB_self] at this; exact this
                  have PE := Lib.hid pe
                  clear hge k0 pe
                  as_aux_lemma =>
                    go_wp2_with fail
                    refine CG.out.mono ?_
                    rintro e w8 ⟨he, hv, ho⟩
                    obtain rfl := GE.out e he
                    have I8 := Lib.hid ((I1.out.pool hv ho SB.out).alloc (.cells x.cs 40))
                    have K8 := Lib.hid ((bk_pz ho K1.out PCT.out).alloc (.cells x.cs 40))
                    have P8 := Lib.hid (Bk.new w8 40 x.cs)
                    obtain ⟨PA, hPA⟩ : ∃ PA, PA = w8.heap.size := ⟨_, rfl⟩
                    rw [← hPA] at P8
                    have HPA := Lib.hid hPA
                    clear hv ho he CG I1 K1 y0 y1 hPA
                    as_aux_lemma =>
                      go_upto_region 21 with (refine store_page_new rfl _ _ rfl x rfl rfl ?_; rw [← HPA.out]; clear HPA; generalize w8.alloc (.cells x.cs 40) = w9 at *)
                      have z1 : w9.cell? ⟨G, 1, none⟩ = some (.int .i64 cc.id) := K8.out.cell 1
                      have RG := Lib.hid (rf_get I8.out.rf (by have := PN.out; omega) cc.id)
                      as_aux_lemma =>
                        go_wp2_with fail
                        refine RG.out.mono ?_
                        rintro e w10 ⟨he, hb⟩
                        obtain rfl := GE.out e (I8.out.get2 cc.id he)
                        have I11 := Lib.hid ((I8.out.kept hb).alloc (.cells x.cs 40))
                        have PA1 := Lib.hid ((P8.out.kept hb).alloc (.cells x.cs 40))
                        have PB1 := Lib.hid (Bk.new w10 40 x.cs)
                        obtain ⟨PB, hPB⟩ : ∃ PB, PB = w10.heap.size := ⟨_, rfl⟩
                        rw [← hPB] at PB1
                        have HPB := Lib.hid hPB
                        clear he hb RG I8 K8 P8 z1 hPB GE
                        as_aux_lemma =>
                          go_upto_region 22 with (refine store_page_new rfl _ _ rfl x rfl rfl ?_; rw [← HPB.out]; clear HPB; generalize w10.alloc (.cells x.cs 40) = w11 at *)
                          have pe := PE.out
                          go_upto_region 29 with (first | (refine load_page rfl _ rfl PA x rfl PA1.out ?_) | (refine load_page rfl _ rfl PB x rfl PB1.out ?_))
                          clear pe PE PA1 PB1
                          have CD := Lib.hid (vz_dirty I11.out.vz)
                          as_aux_lemma =>
                            go_wp2_with fail
                            refine CD.out.mono ?_
                            rintro e w20 ⟨da, dn, dc, rfl, hdn, hd2, -, hb⟩
                            have IT := Lib.hid (I11.out.kept hb)
                            have ndf : ¬ (frn : Int) < (dn : Int) := by omega
                            have ndd : decide (frn < dn) = false := decide_eq_false (by omega)
                            clear hb CD I11 hdn hd2
                            go_wp2
                            go_roundw
                            case rel => exact ⟨j + 1, _, _, _, _, _, by have := HLT.out; omega, by go_num, IT.out⟩
                            case measure => have := HLT.out; simp [intOf]; omega
                have k0b : (cc.k == 0) = false := by simp [k0]
                by_cases k1 : cc.k = 1
                · --@Vk1
                  have k1b : (cc.k == 1) = true := by simp [k1]
                  have y3 : w7.cell? ⟨G, 18, none⟩ = some (.string cc.v) := K1.out.cell 18
                  have CAp := Lib.hid (vz_append I1.out.vz I1.out.hz cc.v OK.out.len)
                  have hap := apF_cases FN.out.2 cc.v.size
                  obtain ⟨⟨F2, at_, er⟩, hrr⟩ : ∃ r, r = apF F cc.v.size := ⟨_, rfl⟩
                  rw [← hrr] at CAp hap
                  dsimp only at CAp hap
                  clear hrr k0 k1
                  as_aux_lemma =>
                    go_wp2_with fail
                    refine CAp.out.mono ?_
                    rintro e w8 ⟨rfl, hv, ho⟩
                    have I8 := Lib.hid (I1.out.pool hv ho SB.out)
                    have K8 := Lib.hid (bk_pz ho K1.out PCT.out)
                    clear hv ho CAp I1 K1 y0 y1 y3
                    as_aux_lemma =>
                      rcases hap with ⟨rfl, hF2, hat⟩ | ⟨hne, hFe⟩
                      · have HAT := Lib.hid hat; have HF2 := Lib.hid hF2
                        clear hat hF2
                        have CPu := Lib.hid (vz_put I8.out.vz I8.out.hz cc.id cc.p at_ (by have := FN.out; have := HAT.out; omega) (by have := FN.out; omega))
                        go_upto_region 27 with fail
                        obtain ⟨wv, hwv⟩ : ∃ wv, wv = w8.drew := ⟨_, rfl⟩
                        have HWV := Lib.hid hwv.symm
                        have I8v := Lib.hid (show RnI w wv Bs gd gl gp pn frn F2 (4102 * F) R NB Z Now St ps st False from by rw [hwv]; exact I8.out.kept (below_drewN (Below.refl w8.heap.size w8) 1))
                        have K8v := Lib.hid (show Bk wv G 42 cc.cs from by rw [hwv]; exact K8.out.drew)
                        clear hwv K8 I8 CPu
                        have I8 := I8v
                        have K8 := K8v
                        clear I8v K8v
                        have CPu := Lib.hid (vz_put I8.out.vz I8.out.hz cc.id cc.p at_ (by have := FN.out; have := HAT.out; omega) (by have := FN.out; omega))
                        as_aux_lemma =>
                          refine wp_region_held (S := fun w' => Bk w' G 42 cc.cs) (by kernel_rfl) ?_
                          show wpAnyH _ _ _ _ _ _ _ _ w8.drew
                          rw [HWV.out]
                          refine pk_take (fuel := 14) (i := 0) 130 rfl rfl (by kernel_rfl) (by kernel_rfl) (by kernel_rfl) (fun _ _ _ h => h) (pk_move _ rfl (by kernel_rfl)) K8.out ?_
                          simp only [Act.put, Act.eval, List.setIfInBounds_toArray, List.set_cons_succ, List.set_cons_zero]
                          refine pk_take (fuel := 13) (i := 1) (v := .pointer (some ⟨G, 1, none⟩)) 131 rfl rfl (by kernel_rfl) (by kernel_rfl) (by kernel_rfl) (fun _ _ _ h => h) (by refine .inl ⟨by kernel_rfl, fun wx hx => ?_⟩; have z1 : wx.cell? ⟨G, 1, none⟩ = some (.int .i64 cc.id) := hx.cell 1; unfold execOp; go_simp) K8.out ?_
                          simp only [Act.put, Act.eval, List.setIfInBounds_toArray, List.set_cons_succ, List.set_cons_zero]
                          refine pk_take (fuel := 12) (i := 2) (v := .int .i64 cc.id) 132 rfl rfl (by kernel_rfl) (by kernel_rfl) (by kernel_rfl) (fun _ _ _ h => h) (by refine .inl ⟨by kernel_rfl, fun wx hx => ?_⟩; have z1 : wx.cell? ⟨G, 1, none⟩ = some (.int .i64 cc.id) := hx.cell 1; unfold execOp; go_simp) K8.out ?_
                          simp only [Act.put, Act.eval, List.setIfInBounds_toArray, List.set_cons_succ, List.set_cons_zero]
                          refine pk_take (fuel := 11) (i := 3) (v := .pointer (some ⟨G, 2, none⟩)) 133 rfl rfl (by kernel_rfl) (by kernel_rfl) (by kernel_rfl) (fun _ _ _ h => h) (by refine .inl ⟨by kernel_rfl, fun wx hx => ?_⟩; have z1 : wx.cell? ⟨G, 1, none⟩ = some (.int .i64 cc.id) := hx.cell 1; unfold execOp; go_simp) K8.out ?_
                          simp only [Act.put, Act.eval, List.setIfInBounds_toArray, List.set_cons_succ, List.set_cons_zero]
                          refine pk_take (fuel := 10) (i := 4) (v := .agg cc.p.cs) 134 rfl rfl (by kernel_rfl) (by kernel_rfl) (by kernel_rfl) (fun _ _ _ h => h) (pk_cpp _ rfl (by kernel_rfl) G cc rfl (fun w h => h)) K8.out ?_
                          simp only [Act.put, Act.eval, List.setIfInBounds_toArray, List.set_cons_succ, List.set_cons_zero]
                          refine pk_take (fuel := 9) (i := 5) 135 rfl rfl (by kernel_rfl) (by kernel_rfl) (by kernel_rfl) (fun _ _ _ h => h) (pk_move _ rfl (by kernel_rfl)) K8.out ?_
                          simp only [Act.put, Act.eval, List.setIfInBounds_toArray, List.set_cons_succ, List.set_cons_zero]
                          refine pk_take (fuel := 8) (i := 7) 137 rfl rfl (by kernel_rfl) (by kernel_rfl) (by kernel_rfl) (fun _ _ _ h => h) (pk_move _ rfl (by kernel_rfl)) K8.out ?_
                          simp only [Act.put, Act.eval, List.setIfInBounds_toArray, List.set_cons_succ, List.set_cons_zero]
                          refine pk_take (fuel := 7) (i := 8) (v := .pointer (some ⟨G, 1, none⟩)) 138 rfl rfl (by kernel_rfl) (by kernel_rfl) (by kernel_rfl) (fun _ _ _ h => h) (by refine .inl ⟨by kernel_rfl, fun wx hx => ?_⟩; have z1 : wx.cell? ⟨G, 1, none⟩ = some (.int .i64 cc.id) := hx.cell 1; unfold execOp; go_simp) K8.out ?_
                          simp only [Act.put, Act.eval, List.setIfInBounds_toArray, List.set_cons_succ, List.set_cons_zero]
                          refine pk_take (fuel := 6) (i := 9) (v := .int .i64 cc.id) 139 rfl rfl (by kernel_rfl) (by kernel_rfl) (by kernel_rfl) (fun _ _ _ h => h) (by refine .inl ⟨by kernel_rfl, fun wx hx => ?_⟩; have z1 : wx.cell? ⟨G, 1, none⟩ = some (.int .i64 cc.id) := hx.cell 1; unfold execOp; go_simp) K8.out ?_
                          simp only [Act.put, Act.eval, List.setIfInBounds_toArray, List.set_cons_succ, List.set_cons_zero]
                          refine pk_take (fuel := 5) (i := 10) (v := .pointer (some ⟨G, 2, none⟩)) 140 rfl rfl (by kernel_rfl) (by kernel_rfl) (by kernel_rfl) (fun _ _ _ h => h) (by refine .inl ⟨by kernel_rfl, fun wx hx => ?_⟩; have z1 : wx.cell? ⟨G, 1, none⟩ = some (.int .i64 cc.id) := hx.cell 1; unfold execOp; go_simp) K8.out ?_
                          simp only [Act.put, Act.eval, List.setIfInBounds_toArray, List.set_cons_succ, List.set_cons_zero]
                          refine pk_take (fuel := 4) (i := 11) (v := .agg cc.p.cs) 141 rfl rfl (by kernel_rfl) (by kernel_rfl) (by kernel_rfl) (fun _ _ _ h => h) (pk_cpp _ rfl (by kernel_rfl) G cc rfl (fun w h => h)) K8.out ?_
                          simp only [Act.put, Act.eval, List.setIfInBounds_toArray, List.set_cons_succ, List.set_cons_zero]
                          refine pk_take (fuel := 3) (i := 12) 142 rfl rfl (by kernel_rfl) (by kernel_rfl) (by kernel_rfl) (fun _ _ _ h => h) (pk_move _ rfl (by kernel_rfl)) K8.out ?_
                          simp only [Act.put, Act.eval, List.setIfInBounds_toArray, List.set_cons_succ, List.set_cons_zero]
                          refine pk_ready (fuel := 2) 6 (by kernel_rfl) ?_
                          refine pk_call rfl (by kernel_rfl) 136 rfl 15 #[.pointer (some ⟨gp, 0, none⟩), .int .i64 cc.id, .agg cc.p.cs, .int .i64 (at_ : Int)] (by unfold execOp; go_simp) ?_
                          refine CPu.out.mono ?_
                          rintro e w9 ⟨hpost, ho⟩
                          have K9 := Lib.hid (bk_pz ho K8.out PCT.out)
                          obtain ⟨er1, rfl, hc9⟩ : ∃ er1 : Int, e = .returned (.int .i64 er1) ∧ ((er1 = 0 ∧ putGood pn cc.id cc.p ∧ Vz w9 Bs gd gl gp pn frn F2 (4102 * F + 4102) (updN Now cc.id.toNat cc.p) (updN St cc.id.toNat at_) Z False) ∨ (er1 = 1 ∧ ¬ putGood pn cc.id cc.p ∧ Vz w9 Bs gd gl gp pn frn F2 (4102 * F) Now St Z False)) := by
                            rcases hpost with ⟨h1, rfl, h2⟩ | ⟨h1, rfl, h2⟩
                            · exact ⟨0, rfl, .inl ⟨rfl, h1, h2⟩⟩
                            · exact ⟨1, rfl, .inr ⟨rfl, h1, h2⟩⟩
                          refine ⟨_, rfl, K9.out, ?_⟩
                          simp only [Act.put, Act.eval, List.setIfInBounds_toArray, List.set_cons_succ, List.set_cons_zero]
                          refine pk_ready (fuel := 1) 13 (by kernel_rfl) ?_
                          refine pk_call rfl (by kernel_rfl) 143 rfl 16 #[.pointer (some ⟨R, 0, none⟩), .int .i64 cc.id, .agg cc.p.cs, .int .i64 (at_ : Int)] (by unfold execOp; go_simp) ?_
                          refine (rf_put (I8.out.rf.out ho) (by have := PN.out; omega) cc.id cc.p at_).mono ?_
                          rintro e w10 ⟨hpost2, ho2⟩
                          have K10 := Lib.hid (show Bk w10 G 42 cc.cs from ho2.bk K9.out fun hp => by rcases hp with e | e <;> (rw [e] at K9; first | exact Bk.ne_ K9.out (I8.out.rf.out ho).now (by decide) rfl | exact Bk.ne_ K9.out (I8.out.rf.out ho).stp (by decide) rfl))
                          obtain ⟨er2, Now2, St2, ps2, st2, q2, hee, rfl, hq2, hI2⟩ : ∃ (er2 : Int) (Now2 : Nat → Pg) (St2 : Nat → Nat) (ps2 : List Pg) (st2 : List Nat) (q2 : Nat), er1 = er2 ∧ e = .returned (.int .i64 er2) ∧ q2 ≤ 4102 * F2 ∧ RnI w w10 Bs gd gl gp pn frn F2 q2 R NB Z Now2 St2 ps2 st2 False := by
                            rcases hc9 with ⟨e1, hg, hv⟩ | ⟨e1, hg, hv⟩
                            · rcases hpost2 with ⟨-, rfl, hr⟩ | ⟨hg2, -⟩
                              · exact ⟨0, _, _, _, _, _, e1, rfl, by have := HF2.out; omega, I8.out.put hg hv ho hr ho2 SB.out⟩
                              · exact absurd hg hg2
                            · rcases hpost2 with ⟨hg2, -⟩ | ⟨-, rfl, hr⟩
                              · exact absurd hg2 hg
                              · exact ⟨1, _, _, _, _, _, e1, rfl, by have := HF2.out; omega, I8.out.putno hv ho hr ho2 SB.out⟩
                          subst hee
                          have I10 := Lib.hid (hI2.weak hq2 (fun h => h))
                          refine ⟨_, rfl, K10.out, ?_⟩
                          simp only [Act.put, Act.eval, List.setIfInBounds_toArray, List.set_cons_succ, List.set_cons_zero]
                          refine pk_ready (fuel := 0) 14 (by kernel_rfl) ?_
                          refine pk_run rfl (by kernel_rfl) 144 rfl (.bool false) _ (by unfold execOp; go_simp) ⟨K10.out, ?_⟩
                          simp only [Act.put, Act.eval, List.setIfInBounds_toArray, List.set_cons_succ, List.set_cons_zero]
                          refine wpAnyH_done (by kernel_rfl) ?_ _
                          (try simp only [Act.put, Act.eval, List.setIfInBounds_toArray, List.set_cons_succ, List.set_cons_zero])
                          clear K8 K9 K10 I8 hc9 hpost2 ho ho2 hI2 hq2 hpost CPu
                          go_upto_region 29 with fail
                          have CD := Lib.hid (vz_dirty I10.out.vz)
                          as_aux_lemma =>
                            go_wp2_with fail
                            refine CD.out.mono ?_
                            rintro e w20 ⟨da, dn, dc, rfl, hdn, hd2, -, hb⟩
                            have IT := Lib.hid (I10.out.kept hb)
                            have ndf : ¬ (frn : Int) < (dn : Int) := by omega
                            have ndd : decide (frn < dn) = false := decide_eq_false (by omega)
                            clear hb CD I10 hdn hd2
                            go_wp2
                            go_roundw
                            case rel => exact ⟨j + 1, _, _, _, _, _, by have := HLT.out; omega, by go_num, IT.out⟩
                            case measure => have := HLT.out; simp [intOf]; omega
                      · have hnb : (er == 0) = false := by simp [hne]
                        have hnb2 : (er != 0) = true := by simp [hne]
                        have IE := Lib.hid (I8.out.weak (q' := 4102 * F2) (by omega) (fun h => h))
                        clear hFe hne I8 K8
                        go_wp2
                        go_roundw
                        case rel => exact ⟨j + 1, _, _, _, _, _, by have := HLT.out; omega, by go_num, IE.out⟩
                        case measure => have := HLT.out; simp [intOf]; omega
                · --@Vk2
                  have k1b : (cc.k == 1) = false := by simp [k1]
                  have CF := Lib.hid (vz_flush I1.out.vz I1.out.hz (by have := FN.out; omega))
                  clear k0 k1
                  as_aux_lemma =>
                    go_wp2_with fail
                    refine CF.out.mono ?_
                    rintro e w8 ⟨rfl, hv, ho⟩
                    have I8 := Lib.hid (I1.out.pool hv ho SB.out)
                    have CD := Lib.hid (vz_dirty I8.out.vz)
                    clear hv ho CF I1 K1 y0 y1
                    as_aux_lemma =>
                      go_wp2_with fail
                      refine CD.out.mono ?_
                      rintro e w9 ⟨da, dn, dc, rfl, -, -, hd0, hb⟩
                      obtain rfl := hd0 trivial
                      have I9 := Lib.hid (I8.out.kept hb)
                      have CT := Lib.hid (there_any I9.out.vz I9.out.rf I9.out.eq I9.out.es)
                      clear hb CD I8 hd0
                      as_aux_lemma =>
                        go_wp2_with fail
                        refine CT.out.mono ?_
                        rintro e w10 ⟨rfl, hb⟩
                        have I10 := Lib.hid ((I9.out.kept hb).weak (q' := 4102 * F) (Nat.zero_le _) (cl' := False) (fun h => h.elim))
                        clear hb CT I9
                        go_upto_region 29 with fail
                        have CD := Lib.hid (vz_dirty I10.out.vz)
                        as_aux_lemma =>
                          go_wp2_with fail
                          refine CD.out.mono ?_
                          rintro e w20 ⟨da, dn, dc, rfl, hdn, hd2, -, hb⟩
                          have IT := Lib.hid (I10.out.kept hb)
                          have ndf : ¬ (frn : Int) < (dn : Int) := by omega
                          have ndd : decide (frn < dn) = false := decide_eq_false (by omega)
                          clear hb CD I10 hdn hd2
                          go_wp2
                          go_roundw
                          case rel => exact ⟨j + 1, _, _, _, _, _, by have := HLT.out; omega, by go_num, IT.out⟩
                          case measure => have := HLT.out; simp [intOf]; omega
            · --@Vend
              obtain rfl : j = len := by omega
              clear hlt hj CAT CBD
              have FN := Lib.hid (show 54 ≤ F ∧ F ≤ 6966 from by obtain ⟨D, h⟩ := II.out.vz.vw; exact h.fin_le)
              as_aux_lemma =>
                go_wp2_with fail
                go_loopw [152] (fun i wr => ∃ (j : Nat), j ≤ pn ∧ i = .int .i64 j ∧ RnI w wr Bs gd gl gp pn frn F (4102 * F) R NB Z Now St ps st False) (fun i _ => pn - (intOf i).toNat)
                case atStart => exact ⟨0, Nat.zero_le _, rfl, II.out⟩
                case round =>
                  clear II
                  obtain ⟨i, hi, rfl, hI⟩ := hrel
                  have II := Lib.hid hI
                  clear hI
                  by_cases hlt : i < pn
                  · have HLT := Lib.hid hlt
                    have hib : i < 9223372036854775807 := by have := PN.out; omega
                    obtain ⟨x, er, -, her, hge⟩ := II.out.get (i : Int)
                    obtain rfl := her (by omega) (by omega)
                    have GE := Lib.hid hge
                    have CG := Lib.hid (vz_get II.out.vz II.out.hz (i : Int))
                    have PE := Lib.hid (show ∀ w, (binOp .neq 40 (.agg x.cs) (.agg x.cs)).run Try.prog w = .ok (.bool false) w from fun w => by have := page_neq x x w; rw [pgB_self] at this; exact this)
                    clear hge her
                    as_aux_lemma =>
                      go_wp2_with fail
                      refine CG.out.mono ?_
                      rintro e w8 ⟨he, hv, ho⟩
                      obtain rfl := GE.out e he
                      have I8 := Lib.hid ((II.out.pool hv ho SB.out).alloc (.cells x.cs 40))
                      have P8 := Lib.hid (Bk.new w8 40 x.cs)
                      obtain ⟨PA, hPA⟩ : ∃ PA, PA = w8.heap.size := ⟨_, rfl⟩
                      rw [← hPA] at P8
                      have HPA := Lib.hid hPA
                      clear hv ho he CG II hPA
                      as_aux_lemma =>
                        go_upto_region 36 with (refine store_page_new rfl _ _ rfl x rfl rfl ?_; rw [← HPA.out]; clear HPA; generalize w8.alloc (.cells x.cs 40) = w9 at *)
                        have RG := Lib.hid (rf_get I8.out.rf (by have := PN.out; omega) (i : Int))
                        as_aux_lemma =>
                          go_wp2_with fail
                          refine RG.out.mono ?_
                          rintro e w10 ⟨he, hb⟩
                          obtain rfl := GE.out e (I8.out.get2 (i : Int) he)
                          have I11 := Lib.hid ((I8.out.kept hb).alloc (.cells x.cs 40))
                          have PA1 := Lib.hid ((P8.out.kept hb).alloc (.cells x.cs 40))
                          have PB1 := Lib.hid (Bk.new w10 40 x.cs)
                          obtain ⟨PB, hPB⟩ : ∃ PB, PB = w10.heap.size := ⟨_, rfl⟩
                          rw [← hPB] at PB1
                          have HPB := Lib.hid hPB
                          clear he hb RG I8 P8 hPB GE
                          as_aux_lemma =>
                            go_upto_region 37 with (refine store_page_new rfl _ _ rfl x rfl rfl ?_; rw [← HPB.out]; clear HPB; generalize w10.alloc (.cells x.cs 40) = w11 at *)
                            have pe := PE.out
                            go_wp2_with (first | (refine load_page_if _ rfl (by first | rfl | kernel_rfl) PA x rfl PA1.out ?_) | (refine load_page_if _ rfl (by first | rfl | kernel_rfl) PB x rfl PB1.out ?_))
                            clear pe PE PA1 PB1
                            go_roundw
                            case rel => exact ⟨i + 1, by have := HLT.out; omega, by go_num, I11.out⟩
                            case measure => have := HLT.out; simp [intOf]; omega
                  · obtain rfl : i = pn := by omega
                    clear hlt hi
                    have CF := Lib.hid (vz_flush II.out.vz II.out.hz (by have := FN.out; omega))
                    as_aux_lemma =>
                      go_wp2_with fail
                      refine CF.out.mono ?_
                      rintro e w8 ⟨rfl, hv, ho⟩
                      have I8 := Lib.hid (II.out.pool hv ho SB.out)
                      have CT := Lib.hid (there_any I8.out.vz I8.out.rf I8.out.eq I8.out.es)
                      clear hv ho CF II
                      as_aux_lemma =>
                        go_wp2_with fail
                        refine CT.out.mono ?_
                        rintro e w9 ⟨rfl, hb⟩
                        have BF := Lib.hid (below_then I8.out.bw hb I8.out.bw.size)
                        clear hb CT I8
                        go_wp2
                        go_ret
                        exact ⟨rfl, BF.out⟩
end Go.Proofs.Ytgafajbdmegfgaa
