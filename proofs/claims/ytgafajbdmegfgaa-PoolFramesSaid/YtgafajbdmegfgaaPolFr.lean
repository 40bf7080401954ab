/- PoolFrames. -/
import Derived.Test.YtgafajbdmegfgaaPolFrLib
set_option linter.unusedVariables false
set_option linter.unusedSimpArgs false
namespace Go.Proofs.Ytgafajbdmegfgaa
open Go.RowKit

set_option maxRecDepth 100000 in
set_option maxHeartbeats 16000000 in
theorem walk_PoolFrames (a b : Int) (v : Value) (cl : List Cp) (w : World) (ha1 : -9223372036854775808 ≤ a) (ha2 : a ≤ 9223372036854775807) (hb1 : -9223372036854775808 ≤ b) (hb2 : b ≤ 9223372036854775807) (hq : IsCps w v cl) :
    Calls Try.prog 4 #[.int .i64 a, .int .i64 b, v] w fun e w' => e = .returned (.bool true) ∧ Below w.heap.size w w' := by
  have CAT := Lib.hid hq.at_; have CBD := Lib.hid hq.bd
  obtain ⟨aa, ac, rfl, -⟩ := CAT.out
  have hl0 := hq.len
  obtain ⟨len, hlen⟩ : ∃ len, len = cl.length := ⟨_, rfl⟩
  have HLN := Lib.hid hlen
  rw [← hlen] at hl0 ⊢
  have LM := Lib.hid (show len ≤ 9223372036854775807 by simp only [maxLen] at hl0; omega)
  clear hq hlen hl0
  have CA := Lib.hid (awake12_any w)
  go_enter Try.func4, Try.ntmps4
  go_wp2_with fail
  refine CA.out.mono ?_
  rintro e w0 ⟨rfl, hb⟩
  have B0 := Lib.hid hb
  clear hb CA
  as_aux_lemma =>
    by_cases c1 : a < 4
    · go_wp2
      go_ret
      exact ⟨rfl, B0.out⟩
    by_cases c2 : b < 4
    · go_wp2
      go_ret
      exact ⟨rfl, B0.out⟩
    by_cases c3 : 64 < a
    · go_wp2
      go_ret
      exact ⟨rfl, B0.out⟩
    by_cases c4 : 64 < b
    · go_wp2
      go_ret
      exact ⟨rfl, B0.out⟩
    by_cases c100 : (100 : Int) < (len : Int)
    · go_wp2
      go_ret
      exact ⟨rfl, B0.out⟩
    have AB := Lib.hid (show (4 ≤ a ∧ a ≤ 64) ∧ (4 ≤ b ∧ b ≤ 64) by omega)
    have LL := Lib.hid (show len ≤ 100 by omega)
    have PCG := Lib.hid (show ¬ plI 57 by unfold plI plT; decide)
    have PCP := Lib.hid (show ¬ plI 40 by unfold plI plT; decide)
    as_aux_lemma =>
      go_upto_region 7 with fail
      have gt1 := (Bk.new w0 57 #[nilS, nilS]).alloc (.cells #[.int .i64 a, .int .i64 b] 3)
      have fb1 := Bk.new (w0.alloc (.cells #[nilS, nilS] 57)) 3 #[.int .i64 a, .int .i64 b]
      have B1 := Lib.hid ((B0.out.alloc B0.out.size (.cells #[nilS, nilS] 57)).alloc (Nat.le_trans B0.out.size (by simp)) (.cells #[.int .i64 a, .int .i64 b] 3))
      have GG := Lib.hid B0.out.size
      have O0 := Lib.hid (show PfO w ((w0.alloc (.cells #[nilS, nilS] 57)).alloc (.cells #[.int .i64 a, .int .i64 b] 3)) w0.heap.size (w0.alloc (.cells #[nilS, nilS] 57)).heap.size a b 0 (pfGot 8 cl len) #[nilS, nilS] from
        ⟨gt1, rfl, fb1, fun i hi => absurd hi (Nat.not_lt_zero i), fun i _ hi => by rcases (show i = 0 ∨ i = 1 by omega) with rfl | rfl <;> rfl, B1.out, GG.out⟩)
      rw [show (w0.alloc (.cells #[nilS, nilS] 57)).heap.size = w0.heap.size + 1 by simp] at O0
      unfold nilS at O0
      generalize (w0.alloc (.cells #[.slice none 0 0, .slice none 0 0] 57)).alloc (.cells #[.int .i64 a, .int .i64 b] 3) = ws at *
      obtain ⟨GT, hGT⟩ : ∃ GT, GT = w0.heap.size := ⟨_, rfl⟩
      rw [← hGT] at O0 GG ⊢
      clear gt1 fb1 B1 B0 hGT c1 c2 c3 c4 c100
      as_aux_lemma =>
        go_wp2_with fail
        go_loopw [48] (fun i wr => ∃ (k : Nat) (cs : Array Value), k ≤ 2 ∧ i = .int .i64 k ∧ PfO w wr GT (GT + 1) a b k (pfGot 8 cl len) cs) (fun i _ => 2 - (intOf i).toNat)
        case atStart => exact ⟨0, _, Nat.zero_le _, rfl, O0.out⟩
        case round =>
          clear O0
          obtain ⟨k, cs0, hk, rfl, hO⟩ := hrel
          have HO := Lib.hid hO
          by_cases hlt2 : k < 2
          · have K2 := Lib.hid hlt2
            obtain ⟨fr, hfr⟩ : ∃ fr : Nat, 4 ≤ fr ∧ fr ≤ 64 ∧ wr.cell? ⟨GT + 1, k, none⟩ = some (.int .i64 (fr : Int)) := by
              have := AB.out
              rcases (show k = 0 ∨ k = 1 by omega) with rfl | rfl
              · exact ⟨a.toNat, by omega, by omega, (hO.fb.cell 0).trans (by rw [show ((a.toNat : Nat) : Int) = a by omega]; rfl)⟩
              · exact ⟨b.toNat, by omega, by omega, (hO.fb.cell 1).trans (by rw [show ((b.toNat : Nat) : Int) = b by omega]; rfl)⟩
            have FR := Lib.hid (show 4 ≤ fr ∧ fr ≤ 64 from ⟨hfr.1, hfr.2.1⟩)
            have f0 := hfr.2.2
            have B1 := Lib.hid hO.bw
            have SB := Lib.hid hO.bw.size
            have G1 := Lib.hid (show GT < wr.heap.size from hO.gt.lt)
            clear hfr hO
            obtain ⟨w1, hw1⟩ : ∃ w1, w1 = wr := ⟨_, rfl⟩
            subst hw1
            as_aux_lemma =>
              have CN := new_good 160 w1 (by omega) (by omega)
              rw [show ((160 : Nat) : Int) = 160 from rfl] at CN
              have CN := Lib.hid CN
              go_wp2_with fail
              refine CN.out.mono ?_
              rintro e w2 ⟨I, rfl, hd, hb⟩
              have D2 := Lib.hid hd; have B2 := Lib.hid hb
              have CC := create_good 160 0 128 hd (by omega) (by omega) (by omega) hb.size
              rw [show ((0 : Nat) : Int) = 0 from rfl, show ((128 : Nat) : Int) = 128 from rfl] at CC
              have CC := Lib.hid CC
              clear hd hb CN
              obtain ⟨gd, df, dn, dfc, dnc, dp⟩ := I
              unfold Ids.ptr at *
              dsimp only at *
              go_wp2_with fail
              refine CC.out.mono ?_
              rintro e w3 ⟨gl, p', rfl, hw, hb⟩
              have B3 := Lib.hid (B2.out.trans hb)
              have W3 := Lib.hid hw
              have CP := pnew_good hw 128 8 fr (by omega) (by omega) (by have := FR.out; omega) (by have := FR.out; omega) (by simp [Dsk.start, blanks]) (Nat.le_trans B2.out.size hb.size)
              unfold Ids.ptr Wd.ptr Ids.with at CP
              dsimp only at CP
              rw [show ((128 : Nat) : Int) = 128 from rfl, show ((8 : Nat) : Int) = 8 from rfl] at CP
              have CP := Lib.hid CP
              clear hw hb CC B2 D2
              go_wp2_with fail
              refine CP.out.mono ?_
              rintro e w4 ⟨gp, rfl, hq, hb⟩
              have V4 := Lib.hid (show Vw w4 w1.heap.size gd gl gp 8 fr 54 0 (fun _ => Pg.zero) (fun _ => 0) (fun _ => False) from Vw.new (by rfl) W3.out hb hq B3.out.size)
              have BB4 := Lib.hid (below_then B3.out hb B3.out.size)
              have B4 := Lib.hid (B1.out.trans ((below_then B3.out hb B3.out.size).mono B1.out.size))
              clear hq hb CP W3 B3
              as_aux_lemma =>
                go_upto_region 14 with fail
                have I0 := Lib.hid (show PfI w w1 w4 GT gd gl gp fr k 0 cl cs0 cs0 nilS from ⟨⟨HO.out.gt.kept BB4.out, HO.out.sz, HO.out.new k (Nat.le_refl _) K2.out, fun _ _ => rfl, POwn.nil _ _, (But.refl w1 GT).below BB4.out, B4.out⟩, _, V4.out.weak (by show 0 ≤ 4102 * 54; omega) (fun _ _ => trivial)⟩)
                clear V4 B4 BB4 f0
                as_aux_lemma =>
                  go_wp2_with fail
                  go_loopw [73] (fun i wr => ∃ (j : Nat) (cs : Array Value) (x : Value), j ≤ len ∧ i = .int .i64 j ∧ PfI w w1 wr GT gd gl gp fr k j cl cs0 cs x) (fun i _ => len - (intOf i).toNat)
                  case atStart => exact ⟨0, cs0, nilS, Nat.zero_le _, rfl, I0.out⟩
                  case round =>
                    clear I0
                    obtain ⟨j, cs, x0, hj, rfl, hI⟩ := hrel
                    have HI := Lib.hid hI
                    by_cases hlt : j < len
                    · have HLT := Lib.hid hlt
                      have hjb : j < 9223372036854775807 := by have := LM.out; omega
                      have hjc : j < cl.length := by rw [← HLN.out]; exact hlt
                      obtain ⟨cc, hcc⟩ : ∃ cc, cc = cl[j] := ⟨_, rfl⟩
                      have OK := Lib.hid (CBD.out _ (List.getElem_mem hjc))
                      obtain ⟨a', c', e1, hat⟩ := CAT.out.below hI.1.bw
                      obtain ⟨b1, off, e2, hb1, hra⟩ := hat (by omega)
                      rw [← HLN.out] at e1
                      obtain ⟨rfl, rfl⟩ : aa = some ⟨b1, off, none⟩ ∧ ac = c' := by rw [e2] at e1; simpa using e1
                      have RK := Lib.hid (hra j cl[j] (List.getElem?_eq_getElem hjc))
                      have GD := Lib.hid (show cl.getD j Cp.zero = cc from by rw [List.getD_eq_getElem?_getD, List.getElem?_eq_getElem hjc, hcc]; rfl)
                      rw [← hcc] at OK RK
                      clear e1 hat e2 hb1 hra hcc hjc
                      obtain ⟨St, hv⟩ := hI.2
                      have V1 := Lib.hid (hv.alloc (.cells cc.cs 42))
                      have K1 := Lib.hid (Bk.new wr 42 cc.cs)
                      have BA := Lib.hid (show Below wr.heap.size wr (wr.alloc (.cells cc.cs 42)) from (Below.refl wr.heap.size wr).alloc (Nat.le_refl _) _)
                      clear hv hI
                      as_aux_lemma =>
                        go_upto_region 17 with (first | (refine load_cp_off rfl _ rfl b1 off j cc rfl RK.out ?_) | (refine store_cp_new rfl _ _ rfl cc rfl rfl ?_))
                        generalize wr.alloc (.cells cc.cs 42) = w7 at *
                        clear RK
                        have I7 := Lib.hid (show PfC w w1 w7 GT k j cl cs0 cs x0 from HI.out.1.kept BA.out)
                        obtain ⟨G, hG⟩ : ∃ G, G = wr.heap.size := ⟨_, rfl⟩
                        rw [← hG] at K1 ⊢
                        clear hG HI BA
                        obtain ⟨F, hF⟩ : ∃ F, F = (pfSt 8 cl j).1 := ⟨_, rfl⟩
                        obtain ⟨Now, hNow⟩ : ∃ Now, Now = (pfSt 8 cl j).2 := ⟨_, rfl⟩
                        rw [← hF, ← hNow] at V1
                        have STEP := Lib.hid (show pfSt 8 cl (j + 1) = pfStep 8 (F, Now) cc from by rw [hF, hNow]; show pfStep 8 (pfSt 8 cl j) _ = _; rw [GD.out])
                        clear hF hNow
                        have FN := Lib.hid V1.out.fin_le
                        have SZ := Lib.hid V1.out.hB
                        have y0 : w7.cell? ⟨G, 0, none⟩ = some (.int .i64 cc.k) := K1.out.cell 0
                        have y1 : w7.cell? ⟨G, 1, none⟩ = some (.int .i64 cc.id) := K1.out.cell 1
                        have y3 : w7.cell? ⟨G, 18, none⟩ = some (.string cc.v) := K1.out.cell 18
                        have PCT := Lib.hid (show ¬ plI 42 by unfold plI plT; decide)
                        have PCG := Lib.hid (show ¬ plI 57 by unfold plI plT; decide)
                        have PCP := Lib.hid (show ¬ plI 40 by unfold plI plT; decide)
                        as_aux_lemma =>
                          go_upto_if 79 with fail
                          go_cut [] (fun wx => (∃ St, Vw wx w1.heap.size gd gl gp 8 fr (pfSt 8 cl (j + 1)).1 (4102 * (pfSt 8 cl (j + 1)).1) (pfSt 8 cl (j + 1)).2 St (fun _ => True)) ∧ Out w7 wx (PI w1.heap.size w7))
                          case first =>
                            --@Vfirst
                            by_cases k1 : cc.k = 1
                            · have k1b : (cc.k == 1) = true := by simp [k1]
                              have CAp := Lib.hid (vw_append V1.out cc.v OK.out.len)
                              have hap := apF_cases FN.out.2 cc.v.size
                              obtain ⟨⟨F2, at_, er⟩, hrr⟩ : ∃ r, r = apF F cc.v.size := ⟨_, rfl⟩
                              have HRR := Lib.hid hrr; have HK1 := Lib.hid k1
                              rw [← hrr] at CAp hap
                              dsimp only at CAp hap
                              clear hrr k1
                              as_aux_lemma =>
                                go_wp2_with fail
                                refine CAp.out.mono ?_
                                rintro e w8 ⟨rfl, hv, ho⟩
                                have V8 := Lib.hid hv; have K8 := Lib.hid (bk_pi ho K1.out PCT.out); have O8 := Lib.hid ho
                                clear hv ho CAp V1 K1 y0 y1 y3
                                as_aux_lemma =>
                                  rcases hap with ⟨rfl, hF2, hat⟩ | ⟨hne, hFe⟩
                                  · have HAT := Lib.hid hat; have HF2 := Lib.hid hF2
                                    clear hat hF2
                                    have z1 : w8.cell? ⟨G, 1, none⟩ = some (.int .i64 cc.id) := K8.out.cell 1
                                    have CPu := Lib.hid (vw_put V8.out cc.id cc.p at_ (by have := FN.out; have := HAT.out; omega) (by have := FN.out; omega))
                                    go_wp2_with (refine load_cpp rfl _ rfl G cc rfl K8.out ?_)
                                    refine CPu.out.mono ?_
                                    rintro e w9 ⟨⟨hg, rfl, hv⟩ | ⟨hg, rfl, hv⟩, ho⟩
                                    · have V9 := Lib.hid hv; have O9 := Lib.hid (pi_then O8.out ho); have HG := Lib.hid hg
                                      clear hv ho CPu V8 K8 z1 hg
                                      go_wp2
                                      go_meet
                                      rw [STEP.out, pfStep_good HK1.out (by rw [← HRR.out]) HG.out, ← HRR.out]
                                      exact ⟨⟨_, V9.out.weak (by have := HF2.out; omega) (fun _ _ => trivial)⟩, O9.out⟩
                                    · have V9 := Lib.hid hv; have O9 := Lib.hid (pi_then O8.out ho); have HG := Lib.hid hg
                                      clear hv ho CPu V8 K8 z1 hg
                                      go_wp2
                                      go_meet
                                      rw [STEP.out, pfStep_bad HK1.out (.inr HG.out), ← HRR.out]
                                      exact ⟨⟨_, V9.out.weak (by have := HF2.out; omega) (fun _ _ => trivial)⟩, O9.out⟩
                                  · have hnb : (er == 0) = false := by simp [hne]
                                    have HFE := Lib.hid hFe; have HNE := Lib.hid hne
                                    clear hFe hne
                                    go_wp2
                                    go_meet
                                    rw [STEP.out, pfStep_bad HK1.out (.inl (by rw [← HRR.out]; exact HNE.out)), ← HRR.out]
                                    exact ⟨⟨_, V8.out.weak (by have := HFE.out; omega) (fun _ _ => trivial)⟩, O8.out⟩
                            · have k1b : (cc.k == 1) = false := by simp [k1]
                              have HST := Lib.hid (show pfStep 8 (F, Now) cc = (F, Now) from pfStep_else k1)
                              clear k1
                              go_wp2
                              go_meet
                              rw [STEP.out, HST.out]
                              exact ⟨⟨St, V1.out⟩, .refl _ _⟩
                          case rest =>
                            --@Vrest
                            obtain ⟨⟨St2, hv⟩, ho⟩ := hcut
                            have V8 := Lib.hid hv
                            have K8 := Lib.hid (bk_pi ho K1.out PCT.out)
                            have I8 := Lib.hid (show PfC w w1 wc GT k j cl cs0 cs x0 from I7.out.out ho PCG.out PCP.out SB.out)
                            obtain ⟨s, hs⟩ : ∃ s, s = pfSt 8 cl (j + 1) := ⟨_, rfl⟩
                            rw [← hs] at V8
                            have HS := Lib.hid hs
                            have GOT := Lib.hid (show pfGot 8 cl (j + 1) = pfGot 8 cl j ++ [pfAt 8 s cc.id] from by show pfGot 8 cl j ++ [pfAt 8 (pfSt 8 cl (j + 1)) (cl.getD j Cp.zero).id] = _; rw [GD.out, hs])
                            have z1 : wc.cell? ⟨G, 1, none⟩ = some (.int .i64 cc.id) := K8.out.cell 1
                            clear hv ho V1 K1 y0 y1 y3 I7 hs K8
                            have CG := Lib.hid (vw_get V8.out cc.id)
                            as_aux_lemma =>
                              go_wp2_with fail
                              refine CG.out.mono ?_
                              rintro e w9 ⟨he, hv, ho⟩
                              obtain ⟨x, hx⟩ : ∃ x, x = pfAt 8 s cc.id := ⟨_, rfl⟩
                              rw [← hx] at GOT
                              obtain ⟨u2, rfl⟩ : ∃ u2, e = .returned (.tuple #[.agg x.cs, .int .i64 u2]) := by
                                rcases he with ⟨h1, h2, rfl⟩ | ⟨h1, rfl⟩
                                · exact ⟨0, by rw [hx]; unfold pfAt; rw [if_pos ⟨h1, h2⟩]⟩
                                · exact ⟨1, by rw [hx]; unfold pfAt; rw [if_neg h1]⟩
                              have V9 := Lib.hid (hv.alloc (.cells x.cs 40))
                              have I9 := Lib.hid ((I8.out.out ho PCG.out PCP.out SB.out).alloc (.cells x.cs 40))
                              have P9 := Lib.hid (Bk.new w9 40 x.cs)
                              obtain ⟨PB, hPB⟩ : ∃ PB, PB = w9.heap.size := ⟨_, rfl⟩
                              have PLT := Lib.hid (show ∀ q, x0.ownBlock = some q → q < PB from fun q hq => by rw [hPB]; exact (ow_blk (I8.out.out ho PCG.out PCP.out SB.out).own hq).2.1)
                              rw [← hPB] at P9
                              have HPB := Lib.hid hPB
                              clear he hv ho hx hPB CG V8 I8 z1
                              as_aux_lemma =>
                                go_upto_region 22 with (refine store_page_new rfl _ _ rfl x rfl rfl ?_; rw [← HPB.out]; clear HPB; generalize w9.alloc (.cells x.cs 40) = w10 at *)
                                obtain ⟨xa, xn, xc, hx0⟩ : ∃ xa xn xc, x0 = .slice xa xn xc := by obtain ⟨p, q, h⟩ := ow_slice I9.out.own; exact ⟨p, _, q, h⟩
                                obtain rfl : x0 = .slice xa j xc := by
                                  obtain ⟨p, q, h⟩ := ow_slice I9.out.own
                                  rw [pfGot_len] at h
                                  rw [h] at hx0
                                  injection hx0 with e1 e2 e3
                                  rw [h, e1, e3]
                                clear hx0
                                have C9 := Lib.hid I9.out; have C9d := Lib.hid (show PfC w w1 w10.drew GT k j cl cs0 cs (.slice xa j xc) from ⟨I9.out.gt.drew, I9.out.sz, I9.out.at_, I9.out.oth, I9.out.own, I9.out.but, below_drewN I9.out.bw 1⟩)
                                have V9d := Lib.hid (show Vw w10.drew w1.heap.size gd gl gp 8 fr s.1 (4102 * s.1) s.2 St2 (fun _ => True) from V9.out.kept (below_drewN (Below.refl w10.heap.size w10) 1))
                                have CA := Lib.hid (C9d.out.alloc (.cells x.cs 40)); have VA := Lib.hid (V9d.out.alloc (.cells x.cs 40))
                                have AT := Lib.hid I9.out.at_
                                have c0 : w10.cell? ⟨GT, k, none⟩ = some (.slice xa j xc) := (C9.out.gt.cell k).trans AT.out
                                have c2 : w10.drew.cell? ⟨GT, k, none⟩ = some (.slice xa j xc) := c0
                                have c3 : (w10.alloc (.cells x.cs 40)).cell? ⟨GT, k, none⟩ = some (.slice xa j xc) := ((C9.out.gt.alloc _).cell k).trans AT.out
                                have c4 : (w10.drew.alloc (.cells x.cs 40)).cell? ⟨GT, k, none⟩ = some (.slice xa j xc) := (CA.out.gt.cell k).trans AT.out
                                have PNG := Lib.hid (show PB ≠ GT from Bk.ne_ P9.out C9.out.gt (by decide))
                                have PX := Lib.hid (show Bk w10.drew PB 40 x.cs from P9.out)
                                have BSA := Lib.hid (show w1.heap.size ≤ (w10.drew.alloc (.cells x.cs 40)).heap.size from CA.out.but.1)
                                have hk2 : k < 2 := K2.out
                                have hk3 : (k : Int) < 2 := by omega
                                have hk4 : ¬ (k : Int) < 0 := by omega
                                clear I9 P9 V9
                                as_aux_lemma =>
                                  have hk6 : (k : Int).toNat = k := by omega
                                  refine wp_region_held (S := fun w' => Bk w' PB 40 x.cs) (by kernel_rfl) ?_
                                  show wpAnyH _ _ _ _ _ _ _ _ w10.drew
                                  refine pk_take (fuel := 8) (i := 0) 103 rfl rfl (by kernel_rfl) (by kernel_rfl) (by kernel_rfl) (fun _ _ _ h => h) (pk_move _ rfl (by kernel_rfl)) PX.out ?_
                                  simp only [Act.put, Act.eval, List.setIfInBounds_toArray, List.set_cons_succ, List.set_cons_zero]
                                  refine pk_take (fuel := 7) (i := 1) 104 rfl rfl (by kernel_rfl) (by kernel_rfl) (by kernel_rfl) (fun _ _ _ h => h) (pk_move _ rfl (by kernel_rfl)) PX.out ?_
                                  simp only [Act.put, Act.eval, List.setIfInBounds_toArray, List.set_cons_succ, List.set_cons_zero]
                                  refine pk_take (fuel := 6) (i := 2) (v := .pointer (some ⟨GT, k, none⟩)) 105 rfl rfl (by kernel_rfl) (by kernel_rfl) (by kernel_rfl) (fun _ _ _ h => h) (by refine .inl ⟨by kernel_rfl, fun wx hx => ?_⟩; unfold execOp; go_simp) PX.out ?_
                                  simp only [Act.put, Act.eval, List.setIfInBounds_toArray, List.set_cons_succ, List.set_cons_zero]
                                  refine pk_take (fuel := 5) (i := 4) (v := .agg x.cs) 107 rfl rfl (by kernel_rfl) (by kernel_rfl) (by kernel_rfl) (fun _ _ _ h => h) (pk_page _ rfl (by kernel_rfl) PB x rfl (fun w h => h)) PX.out ?_
                                  simp only [Act.put, Act.eval, List.setIfInBounds_toArray, List.set_cons_succ, List.set_cons_zero]
                                  refine pk_two 3 5 (by kernel_rfl) ?_ ?_
                                  · refine pk_load_sl rfl (by kernel_rfl) 106 rfl _ rfl GT k (.slice xa j xc) rfl c2 ⟨PX.out, ?_⟩
                                    simp only [Act.put, Act.eval, List.setIfInBounds_toArray, List.set_cons_succ, List.set_cons_zero]
                                    refine pk_ready (fuel := 3) 5 (by kernel_rfl) ?_
                                    refine pk_slice1 rfl (by kernel_rfl) 108 rfl _ rfl x rfl ⟨PX.out.alloc _, ?_⟩
                                    simp only [Act.put, Act.eval, List.setIfInBounds_toArray, List.set_cons_succ, List.set_cons_zero]
                                    refine pk_ready (fuel := 2) 6 (by kernel_rfl) ?_
                                    refine pk_append rfl (by kernel_rfl) 109 rfl _ _ rfl w1.heap.size (.slice xa j xc) (pfGot 8 cl j) rfl CA.out.own w10.drew.heap.size 1 x rfl (Bk.new w10.drew _ _) (by rw [pfGot_len]; have := LL.out; have := HLT.out; omega) BSA.out ?_
                                    intro g cap w4 hown hgr
                                    rw [pfGot_len] at hown ⊢
                                    have hgt4 : Bk w4 GT 57 cs := CA.out.gt.grown hgr (fun e => by obtain ⟨-, -, cur, hc⟩ := ow_blk CA.out.own e.symm; exact Bk.ne_ CA.out.gt hc (by decide) rfl)
                                    have hp4 : Bk w4 PB 40 x.cs := (PX.out.alloc _).grown hgr (fun e => by have := PLT.out _ e.symm; omega)
                                    have HF := Lib.hid (PfI.close CA.out VA.out HS.out GOT.out hown hgr PCG.out PCP.out SB.out GG.out G1.out)
                                    refine ⟨hp4, ?_⟩
                                    simp only [Act.put, Act.eval, List.setIfInBounds_toArray, List.set_cons_succ, List.set_cons_zero]
                                    refine pk_ready (fuel := 1) 7 (by kernel_rfl) ?_
                                    refine pk_run rfl (by kernel_rfl) 110 rfl (.pointer (some ⟨GT, k, none⟩)) _ (by unfold execOp; go_simp) ⟨hp4, ?_⟩
                                    simp only [Act.put, Act.eval, List.setIfInBounds_toArray, List.set_cons_succ, List.set_cons_zero]
                                    refine pk_ready (fuel := 0) 8 (by kernel_rfl) ?_
                                    refine pk_store_sl rfl _ _ rfl rfl (by kernel_rfl) GT k (some ⟨g, 0, none⟩) (j + 1) cap (.slice xa j xc) rfl rfl ((hgt4.cell k).trans AT.out) rfl (hgt4.fz k) ⟨hp4.far PNG.out _, ?_⟩
                                    refine wpAnyH_done (by kernel_rfl) ?_ _
                                    (try simp only [Act.put, Act.eval, List.setIfInBounds_toArray, List.set_cons_succ, List.set_cons_zero])
                                    generalize w4.setCell ⟨GT, k, none⟩ (.slice (some ⟨g, 0, none⟩) (j + 1) cap) = w12 at *
                                    clear hown hgr hgt4 hp4 c0 c2 c3 c4 C9 C9d V9d CA VA PX BSA
                                    go_wp2
                                    go_roundw
                                    case rel => exact ⟨j + 1, _, _, by have := HLT.out; omega, by go_num, HF.out⟩
                                    case measure => have := HLT.out; simp [intOf]; omega
                                  · refine pk_slice1 rfl (by kernel_rfl) 108 rfl _ rfl x rfl ⟨PX.out.alloc _, ?_⟩
                                    simp only [Act.put, Act.eval, List.setIfInBounds_toArray, List.set_cons_succ, List.set_cons_zero]
                                    refine pk_ready (fuel := 3) 3 (by kernel_rfl) ?_
                                    refine pk_load_sl rfl (by kernel_rfl) 106 rfl _ rfl GT k (.slice xa j xc) rfl c4 ⟨PX.out.alloc _, ?_⟩
                                    simp only [Act.put, Act.eval, List.setIfInBounds_toArray, List.set_cons_succ, List.set_cons_zero]
                                    refine pk_ready (fuel := 2) 6 (by kernel_rfl) ?_
                                    refine pk_append rfl (by kernel_rfl) 109 rfl _ _ rfl w1.heap.size (.slice xa j xc) (pfGot 8 cl j) rfl CA.out.own w10.drew.heap.size 1 x rfl (Bk.new w10.drew _ _) (by rw [pfGot_len]; have := LL.out; have := HLT.out; omega) BSA.out ?_
                                    intro g cap w4 hown hgr
                                    rw [pfGot_len] at hown ⊢
                                    have hgt4 : Bk w4 GT 57 cs := CA.out.gt.grown hgr (fun e => by obtain ⟨-, -, cur, hc⟩ := ow_blk CA.out.own e.symm; exact Bk.ne_ CA.out.gt hc (by decide) rfl)
                                    have hp4 : Bk w4 PB 40 x.cs := (PX.out.alloc _).grown hgr (fun e => by have := PLT.out _ e.symm; omega)
                                    have HF := Lib.hid (PfI.close CA.out VA.out HS.out GOT.out hown hgr PCG.out PCP.out SB.out GG.out G1.out)
                                    refine ⟨hp4, ?_⟩
                                    simp only [Act.put, Act.eval, List.setIfInBounds_toArray, List.set_cons_succ, List.set_cons_zero]
                                    refine pk_ready (fuel := 1) 7 (by kernel_rfl) ?_
                                    refine pk_run rfl (by kernel_rfl) 110 rfl (.pointer (some ⟨GT, k, none⟩)) _ (by unfold execOp; go_simp) ⟨hp4, ?_⟩
                                    simp only [Act.put, Act.eval, List.setIfInBounds_toArray, List.set_cons_succ, List.set_cons_zero]
                                    refine pk_ready (fuel := 0) 8 (by kernel_rfl) ?_
                                    refine pk_store_sl rfl _ _ rfl rfl (by kernel_rfl) GT k (some ⟨g, 0, none⟩) (j + 1) cap (.slice xa j xc) rfl rfl ((hgt4.cell k).trans AT.out) rfl (hgt4.fz k) ⟨hp4.far PNG.out _, ?_⟩
                                    refine wpAnyH_done (by kernel_rfl) ?_ _
                                    (try simp only [Act.put, Act.eval, List.setIfInBounds_toArray, List.set_cons_succ, List.set_cons_zero])
                                    generalize w4.setCell ⟨GT, k, none⟩ (.slice (some ⟨g, 0, none⟩) (j + 1) cap) = w12 at *
                                    clear hown hgr hgt4 hp4 c0 c2 c3 c4 C9 C9d V9d CA VA PX BSA
                                    go_wp2
                                    go_roundw
                                    case rel => exact ⟨j + 1, _, _, by have := HLT.out; omega, by go_num, HF.out⟩
                                    case measure => have := HLT.out; simp [intOf]; omega
                    · obtain rfl : j = len := by omega
                      clear hlt hj hI
                      have HN := Lib.hid (show PfO w wr GT (GT + 1) a b (k + 1) (pfGot 8 cl j) cs from HO.out.next HI.out.1 SB.out G1.out K2.out)
                      clear HI
                      go_wp2
                      go_roundw
                      case rel => exact ⟨k + 1, _, by have := K2.out; omega, by go_num, HN.out⟩
                      case measure => have := K2.out; simp [intOf]; omega
          · obtain rfl : k = 2 := by omega
            rw [show ((2 : Nat) : Int) = 2 from rfl]
            clear hlt2 hk
            --@Vend
            obtain ⟨v0, e0, o0⟩ := hO.got 0 (by omega)
            obtain ⟨v1, e1, o1⟩ := hO.got 1 (by omega)
            have GOT := Lib.hid hO.gt
            obtain ⟨a0, c0, rfl⟩ : ∃ a0 c0, v0 = .slice a0 len c0 := by obtain ⟨p, q, h⟩ := ow_slice o0; rw [pfGot_len] at h; exact ⟨p, q, h⟩
            obtain ⟨a1, c1, rfl⟩ : ∃ a1 c1, v1 = .slice a1 len c1 := by obtain ⟨p, q, h⟩ := ow_slice o1; rw [pfGot_len] at h; exact ⟨p, q, h⟩
            have x0 : wr.cell? ⟨GT, 0, none⟩ = some (.slice a0 len c0) := (hO.gt.cell 0).trans e0
            have x1 : wr.cell? ⟨GT, 1, none⟩ = some (.slice a1 len c1) := (hO.gt.cell 1).trans e1
            have R0 := Lib.hid o0; have R1 := Lib.hid o1; have BW := Lib.hid hO.bw
            clear hO HO e0 e1 o0 o1
            as_aux_lemma =>
              go_wp2_with fail
              go_loopw [116] (fun i wx => ∃ (j q : Nat), j ≤ len ∧ i = .int .i64 j ∧ wx = wr.drewN q) (fun i _ => len - (intOf i).toNat)
              case atStart => exact ⟨0, 0, Nat.zero_le _, rfl, rfl⟩
              case round =>
                obtain ⟨j, q, hj, rfl, rfl⟩ := hrel
                by_cases hjl : j < len
                · have HJ := Lib.hid hjl
                  have hjb : j < 9223372036854775807 := by have := LM.out; omega
                  obtain ⟨g0, k0, h0, -, -⟩ := R0.out.form (by rw [pfGot_len]; omega)
                  obtain ⟨g1, k1, h1, -, -⟩ := R1.out.form (by rw [pfGot_len]; omega)
                  obtain ⟨rfl, rfl⟩ : a0 = some ⟨g0, 0, none⟩ ∧ c0 = k0 := by rw [pfGot_len] at h0; simpa using h0
                  obtain ⟨rfl, rfl⟩ : a1 = some ⟨g1, 0, none⟩ ∧ c1 = k1 := by rw [pfGot_len] at h1; simpa using h1
                  have hjg : j < (pfGot 8 cl len).length := by rw [pfGot_len]; exact hjl
                  obtain ⟨p, hp⟩ : ∃ p, (pfGot 8 cl len)[j]? = some p := ⟨_, List.getElem?_eq_getElem hjg⟩
                  obtain ⟨wv, hwv⟩ : ∃ wv, wv = (wr.drewN q).drew := ⟨_, rfl⟩
                  have HWV := Lib.hid hwv.symm
                  have P0 := Lib.hid (show wv.rangeAt g0 (j * 16) p.cs.toList from by rw [hwv]; exact R0.out.range hp)
                  have P1 := Lib.hid (show wv.rangeAt g1 (j * 16) p.cs.toList from by rw [hwv]; exact R1.out.range hp)
                  have z0 : wv.cell? ⟨GT, 0, none⟩ = some (.slice (some ⟨g0, 0, none⟩) len c0) := by rw [hwv]; exact x0
                  have z1 : wv.cell? ⟨GT, 1, none⟩ = some (.slice (some ⟨g1, 0, none⟩) len c1) := by rw [hwv]; exact x1
                  have hj3 : (j : Int) < (len : Int) := by omega
                  have hj4 : ¬ (j : Int) < 0 := by omega
                  have hj5 : (j : Int).toNat = j := by omega
                  clear h0 h1 hp hjg hwv
                  go_upto_region 28 with fail
                  refine wp_region_held (S := fun w' => w' = wv) (by kernel_rfl) ?_
                  show wpAnyH _ _ _ _ _ _ _ _ (wr.drewN q).drew
                  rw [HWV.out]
                  refine pk_take (fuel := 10) (i := 0) (v := .pointer (some ⟨GT, 0, none⟩)) 119 rfl rfl (by kernel_rfl) (by kernel_rfl) (by kernel_rfl) (fun _ _ _ h => h) (by refine .inl ⟨by kernel_rfl, fun wx hx => ?_⟩; subst hx; unfold execOp; go_simp) rfl ?_
                  simp only [Act.put, Act.eval, List.setIfInBounds_toArray, List.set_cons_succ, List.set_cons_zero]
                  refine pk_take (fuel := 9) (i := 1) (v := .slice (some ⟨g0, 0, none⟩) len c0) 120 rfl rfl (by kernel_rfl) (by kernel_rfl) (by kernel_rfl) (fun _ _ _ h => h) (by refine .inl ⟨by kernel_rfl, fun wx hx => ?_⟩; subst hx; unfold execOp; go_simp) rfl ?_
                  simp only [Act.put, Act.eval, List.setIfInBounds_toArray, List.set_cons_succ, List.set_cons_zero]
                  refine pk_take (fuel := 8) (i := 2) 121 rfl rfl (by kernel_rfl) (by kernel_rfl) (by kernel_rfl) (fun _ _ _ h => h) (pk_move _ rfl (by kernel_rfl)) rfl ?_
                  simp only [Act.put, Act.eval, List.setIfInBounds_toArray, List.set_cons_succ, List.set_cons_zero]
                  refine pk_take (fuel := 7) (i := 3) (v := .pointer (some ⟨g0, j * 16, none⟩)) 122 rfl rfl (by kernel_rfl) (by kernel_rfl) (by kernel_rfl) (fun _ _ _ h => h) (by refine .inl ⟨by kernel_rfl, fun wx hx => ?_⟩; subst hx; unfold execOp; go_simp) rfl ?_
                  simp only [Act.put, Act.eval, List.setIfInBounds_toArray, List.set_cons_succ, List.set_cons_zero]
                  refine pk_take (fuel := 6) (i := 4) (v := .agg p.cs) 123 rfl rfl (by kernel_rfl) (by kernel_rfl) (by kernel_rfl) (fun _ _ _ h => h) (pk_page_at _ rfl (by kernel_rfl) g0 (j * 16) p rfl (fun w h => h ▸ P0.out)) rfl ?_
                  simp only [Act.put, Act.eval, List.setIfInBounds_toArray, List.set_cons_succ, List.set_cons_zero]
                  refine pk_take (fuel := 5) (i := 5) (v := .pointer (some ⟨GT, 1, none⟩)) 124 rfl rfl (by kernel_rfl) (by kernel_rfl) (by kernel_rfl) (fun _ _ _ h => h) (by refine .inl ⟨by kernel_rfl, fun wx hx => ?_⟩; subst hx; unfold execOp; go_simp) rfl ?_
                  simp only [Act.put, Act.eval, List.setIfInBounds_toArray, List.set_cons_succ, List.set_cons_zero]
                  refine pk_take (fuel := 4) (i := 6) (v := .slice (some ⟨g1, 0, none⟩) len c1) 125 rfl rfl (by kernel_rfl) (by kernel_rfl) (by kernel_rfl) (fun _ _ _ h => h) (by refine .inl ⟨by kernel_rfl, fun wx hx => ?_⟩; subst hx; unfold execOp; go_simp) rfl ?_
                  simp only [Act.put, Act.eval, List.setIfInBounds_toArray, List.set_cons_succ, List.set_cons_zero]
                  refine pk_take (fuel := 3) (i := 7) 126 rfl rfl (by kernel_rfl) (by kernel_rfl) (by kernel_rfl) (fun _ _ _ h => h) (pk_move _ rfl (by kernel_rfl)) rfl ?_
                  simp only [Act.put, Act.eval, List.setIfInBounds_toArray, List.set_cons_succ, List.set_cons_zero]
                  refine pk_take (fuel := 2) (i := 8) (v := .pointer (some ⟨g1, j * 16, none⟩)) 127 rfl rfl (by kernel_rfl) (by kernel_rfl) (by kernel_rfl) (fun _ _ _ h => h) (by refine .inl ⟨by kernel_rfl, fun wx hx => ?_⟩; subst hx; unfold execOp; go_simp) rfl ?_
                  simp only [Act.put, Act.eval, List.setIfInBounds_toArray, List.set_cons_succ, List.set_cons_zero]
                  refine pk_take (fuel := 1) (i := 9) (v := .agg p.cs) 128 rfl rfl (by kernel_rfl) (by kernel_rfl) (by kernel_rfl) (fun _ _ _ h => h) (pk_page_at _ rfl (by kernel_rfl) g1 (j * 16) p rfl (fun w h => h ▸ P1.out)) rfl ?_
                  simp only [Act.put, Act.eval, List.setIfInBounds_toArray, List.set_cons_succ, List.set_cons_zero]
                  refine pk_take (fuel := 0) (i := 10) (v := .bool (!(pgB p p))) 129 rfl rfl (by kernel_rfl) (by kernel_rfl) (by kernel_rfl) (fun _ _ _ h => h) (pk_neq _ _ _ rfl (by kernel_rfl) p p rfl rfl) rfl ?_
                  simp only [Act.put, Act.eval, List.setIfInBounds_toArray, List.set_cons_succ, List.set_cons_zero]
                  refine wpAnyH_done (by kernel_rfl) ?_ _
                  (try simp only [Act.put, Act.eval, List.setIfInBounds_toArray, List.set_cons_succ, List.set_cons_zero])
                  rw [pgB_self]
                  have BV := Lib.hid (show wv = wr.drewN (q + 1) from HWV.out.symm)
                  clear HWV P0 P1 z0 z1
                  go_wp2
                  go_roundw
                  case rel => exact ⟨j + 1, q + 1, by have := HJ.out; omega, by go_num, BV.out⟩
                  case measure => have := HJ.out; simp [intOf]; omega
                · obtain rfl : j = len := by omega
                  clear hjl hj
                  go_wp2
                  go_ret
                  exact ⟨rfl, below_drewN BW.out q⟩
end Go.Proofs.Ytgafajbdmegfgaa
