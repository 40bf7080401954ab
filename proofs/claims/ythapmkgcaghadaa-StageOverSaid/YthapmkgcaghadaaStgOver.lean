/- StageOver. -/
import Derived.Test.YthapmkgcaghadaaStgTwo
set_option linter.unusedVariables false
set_option linter.unusedSimpArgs false
namespace Go.Proofs.Ythapmkgcaghadaa
open Go.RowKit Go.Maps

set_option maxRecDepth 100000 in
set_option maxHeartbeats 1500000 in
theorem walk_StageOver (v1 : Value) (u : List Im) (v2 : Value) (o : List Im) (w : World) (h1 : IsIms w v1 u) (h2 : IsIms w v2 o) :
    Calls Try.prog 5 #[v1, v2] w fun e w' => e = .returned (.bool true) ∧ Below w.heap.size w w' := by
  have U := Lib.hid h1; have O := Lib.hid h2
  obtain ⟨ua, uc, rfl, ux⟩ := h1.at_
  obtain ⟨oa, oc, rfl, ox⟩ := h2.at_
  have CA := Lib.hid (awake_any w)
  clear h1 h2 ux ox
  go_enter Try.func5, Try.ntmps5
  go_wp2_with fail
  refine CA.out.mono ?_
  rintro e w1 ⟨rfl, hb⟩
  have B1 := Lib.hid hb
  clear hb CA
  have CM := memory_good 6 w1 (by omega) (by omega)
  rw [show ((6 : Nat) : Int) = 6 from rfl] at CM
  have CM := Lib.hid CM
  go_wp2_with fail
  refine CM.out.mono ?_
  rintro e w2 ⟨gs, r, rfl, hS, hb⟩
  have S2 := Lib.hid (show Sh w2 w.heap.size gs r (List.replicate 6 Pg.zero) from ⟨hS.box, hS.row, hS.one, hS.most, Nat.le_trans B1.out.size hS.bg, Nat.le_trans B1.out.size hS.br⟩)
  have B2 := Lib.hid (below_then B1.out hb B1.out.size)
  clear hS hb CM B1
  obtain ⟨ps, hps⟩ : ∃ ps, ps = List.replicate 6 Pg.zero := ⟨_, rfl⟩
  rw [← hps] at S2
  have PL := Lib.hid (show ps.length = 6 by rw [hps, List.length_replicate])
  clear hps
  as_aux_lemma =>
    go_wp2_with fail
    refine (ss_new S2.out B2.out.size).mono ?_
    rintro e w3 ⟨g, b, rfl, hs, hb, -, -⟩
    have S4 := Lib.hid hs
    have B4 := Lib.hid (below_then B2.out hb B2.out.size)
    have RL := Lib.hid (show r < w3.heap.size from Bk.lt hs.sh.row)
    clear hs hb S2 B2
    as_aux_lemma =>
      go_wp2_with fail
      go_loopw [37] (fun i wr => ∃ (j m : Nat) (l : List Im), j ≤ u.length ∧ m ≤ j ∧ i = .int .i64 j ∧ SS wr w.heap.size g b m gs r ps l ∧ Below w.heap.size w wr) (fun i _ => u.length - (intOf i).toNat)
      case atStart => exact ⟨0, 0, [], Nat.zero_le _, Nat.le_refl _, rfl, S4.out, B4.out⟩
      case round =>
        obtain ⟨j, m, l, hj, hmj, rfl, hS, hb⟩ := hrel
        have S5 := Lib.hid hS; have B5 := Lib.hid hb; have MJ := Lib.hid hmj
        clear hS hb hmj S4 B4
        by_cases hlt : j < u.length
        · have HLT := Lib.hid hlt
          have hjb : j < 9223372036854775807 := by have := U.out.len; simp only [maxLen] at this; omega
          have HJB := Lib.hid hjb
          obtain ⟨x, hx⟩ : ∃ x, u[j]? = some x := ⟨_, List.getElem?_eq_getElem hlt⟩
          obtain ⟨a', c', e1, hat⟩ := (U.out.at_.below B5.out)
          obtain ⟨b1, off, e2, hb1, hra⟩ := hat (by omega)
          obtain ⟨rfl, rfl⟩ : ua = some ⟨b1, off, none⟩ ∧ uc = c' := by rw [e2] at e1; simpa using e1
          have RA := Lib.hid (hra j x hx)
          have BN := Lib.hid (B5.out.alloc B5.out.size (.cells x.cs 59))
          have SN := Lib.hid (S5.out.alloc (.cells x.cs 59))
          have KN := Lib.hid (Bk.new wr 59 x.cs)
          obtain ⟨G, hG⟩ : ∃ G, G = wr.heap.size := ⟨_, rfl⟩
          rw [← hG] at KN
          clear e1 hat e2 hb1 hra hx
          as_aux_lemma =>
            go_upto_region 10 with (first | (refine load_im_off rfl _ rfl b1 off j x rfl RA.out ?_) | (refine store_im_new rfl _ _ rfl x rfl rfl ?_; rw [← hG]; clear hG; generalize wr.alloc (.cells x.cs 59) = w4 at *))
            have x0 : w4.cell? ⟨G, 0, none⟩ = some (.int .i64 x.id) := im_id KN.out
            have CP := Lib.hid (ss_set SN.out x.id x.p (by have := MJ.out; have := HJB.out; simp only [maxLen]; omega))
            go_wp2_with (refine load_im_page rfl _ rfl G x rfl KN.out ?_)
            refine CP.out.mono ?_
            rintro e w6 ⟨rfl, hS, hg⟩
            have S6 := Lib.hid hS
            have B6 := Lib.hid (bl_grow BN.out hg (fun j hj => by cases hj; exact SN.out.sg.bb) BN.out.size)
            clear hS hg CP
            go_wp2
            go_roundw
            case rel => exact ⟨j + 1, m + 1, _, by have := HLT.out; omega, by have := MJ.out; omega, by go_num, S6.out, B6.out⟩
            case measure => have := HLT.out; simp [intOf]; omega
        · have hjn : j = u.length := by omega
          subst hjn
          clear hlt hj MJ
          as_aux_lemma =>
            go_wp2_with fail
            refine (ts_new S5.out B5.out.size).mono ?_
            rintro e w6 ⟨g2, b2, rfl, hT, hb⟩
            have T6 := Lib.hid hT
            have B6 := Lib.hid (below_then B5.out hb B5.out.size)
            have RL6 := Lib.hid (show r < w6.heap.size from Bk.lt hT.lo.sh.row)
            clear hT hb S5 B5
            obtain ⟨A0, hA0⟩ : ∃ A0, A0 = w6.heap.size := ⟨_, rfl⟩
            obtain ⟨z6, hz6⟩ : ∃ z6, z6 = List.replicate 6 Pg.zero := ⟨_, rfl⟩
            have K6 := Lib.hid (show PArr (w6.alloc (.cells (flatPg z6).toArray 62)) A0 62 z6 from by rw [hA0]; exact Bk.new w6 _ _)
            have hz : ∀ w, (zeroValue 62).run Try.prog w = .ok (.agg (flatPg z6).toArray) w := fun w => by rw [hz6]; kernel_rfl
            have Z6 := Lib.hid (show z6.length = 6 by rw [hz6]; rfl)
            clear hz6
            have T7 := Lib.hid (T6.out.alloc (.cells (flatPg z6).toArray 62))
            have B7 := Lib.hid (B6.out.alloc B6.out.size (.cells (flatPg z6).toArray 62))
            have AR := Lib.hid (show w.heap.size ≤ A0 ∧ r ≠ A0 ∧ A0 ≤ A0 from by rw [hA0]; exact ⟨B6.out.size, by have := RL6.out; omega, Nat.le_refl _⟩)
            have HA := Lib.hid hA0.symm
            clear hA0
            as_aux_lemma =>
              go_upto_region 14 with fail
              rw [HA.out]
              generalize w6.alloc (.cells (flatPg z6).toArray 62) = w7 at *
              go_wp2_with fail
              go_loopw [51] (fun i wr => ∃ (j : Nat) (qs : List Pg), j ≤ 6 ∧ i = .int .i64 j ∧ TS wr w.heap.size g b m gs r ps l g2 b2 0 [] ∧ PArr wr A0 62 qs ∧ qs.length = 6 ∧ (∀ k : Nat, k < j → qs[k]? = some (ssGet ps l k).1) ∧ Below w.heap.size w wr) (fun i _ => 6 - (intOf i).toNat)
              case atStart => exact ⟨0, _, Nat.zero_le _, rfl, T7.out, K6.out, Z6.out, (fun k hk => absurd hk (Nat.not_lt_zero k)), B7.out⟩
              case round =>
                obtain ⟨j, qs, hj, rfl, hT, hK, hq, hv, hb⟩ := hrel
                have T8 := Lib.hid hT; have K8 := Lib.hid hK; have Q8 := Lib.hid hq; have V8 := Lib.hid hv; have B8 := Lib.hid hb
                clear hT hK hq hv hb T7 K6 B7 T6 B6 HA
                by_cases hlt : j < 6
                · have HLT := Lib.hid hlt
                  have CG := Lib.hid (ss_get T8.out.lo j (by omega) (by omega))
                  obtain ⟨p, hp⟩ : ∃ p, p = (ssGet ps l j).1 := ⟨_, rfl⟩
                  rw [ssGet_in (by rw [PL.out]; exact hlt), ← hp] at CG
                  have HP := Lib.hid hp
                  clear hp
                  go_wp2_with fail
                  refine CG.out.mono ?_
                  rintro e w9 ⟨rfl, hb⟩
                  have T9 := Lib.hid (T8.out.kept hb)
                  have K9 := Lib.hid (show PArr w9 A0 62 qs from Bk.kept K8.out hb)
                  have B9 := Lib.hid (below_then B8.out hb B8.out.size)
                  clear hb CG T8 B8 K8
                  dsimp only
                  go_wp2_with (refine store_arr_at rfl _ _ rfl A0 62 qs j p ?h1 ?h2 ?h3 ?h4 ?_; (case h1 => rw [Q8.out]; exact HLT.out); (case h4 => exact K9.out); (case h3 => rfl); (case h2 => rfl); intro hk3)
                  have hg := setCells_only w9 A0 (j * 16) p.cs.toList
                  have TA := Lib.hid (T9.out.grown hg (fun k hk => by cases hk; exact T9.out.row_ne K9.out (by decide) (by decide) AR.out.2.1.symm))
                  have BA := Lib.hid (bl_grow B9.out hg (fun j hj => by cases hj; exact AR.out.1) B9.out.size)
                  have KA := Lib.hid hk3
                  have VA := Lib.hid (show ∀ k : Nat, k < j + 1 → (qs.set j p)[k]? = some (ssGet ps l k).1 from fun k hk => by
                    by_cases e : k = j
                    · subst e; rw [List.getElem?_set_self (by rw [Q8.out]; exact HLT.out), HP.out]
                    · rw [List.getElem?_set_ne (Ne.symm e)]; exact V8.out k (by omega))
                  clear hg hk3 T9 K9 B9
                  go_wp2
                  go_roundw
                  case rel => exact ⟨j + 1, _, by have := HLT.out; omega, by go_num, TA.out, KA.out, by rw [List.length_set]; exact Q8.out, VA.out, BA.out⟩
                  case measure => have := HLT.out; simp [intOf]; omega
                · have hjn : j = 6 := by omega
                  subst hjn
                  rw [show ((6 : Nat) : Int) = 6 from rfl]
                  clear hlt hj
                  as_aux_lemma =>
                    go_wp2_with fail
                    go_loopw [65] (fun i wx => ∃ (j m2 : Nat) (l2 : List Im), j ≤ o.length ∧ m2 ≤ j ∧ i = .int .i64 j ∧ TS wx w.heap.size g b m gs r ps l g2 b2 m2 l2 ∧ PArr wx A0 62 qs ∧ Below w.heap.size w wx) (fun i _ => o.length - (intOf i).toNat)
                    case atStart => exact ⟨0, 0, [], Nat.zero_le _, Nat.le_refl _, rfl, T8.out, K8.out, B8.out⟩
                    case round =>
                      obtain ⟨j, m2, l2, hj, hmj, rfl, hT, hK, hb⟩ := hrel
                      have T9 := Lib.hid hT; have K9 := Lib.hid hK; have B9 := Lib.hid hb; have MJ := Lib.hid hmj
                      clear hT hK hb hmj T8 K8 B8
                      by_cases hlt : j < o.length
                      · have HLT := Lib.hid hlt
                        have hjb : j < 9223372036854775807 := by have := O.out.len; simp only [maxLen] at this; omega
                        have HJB := Lib.hid hjb
                        obtain ⟨x, hx⟩ : ∃ x, o[j]? = some x := ⟨_, List.getElem?_eq_getElem hlt⟩
                        obtain ⟨a', c', e1, hat⟩ := (O.out.at_.below B9.out)
                        obtain ⟨b1, off, e2, hb1, hra⟩ := hat (by omega)
                        obtain ⟨rfl, rfl⟩ : oa = some ⟨b1, off, none⟩ ∧ oc = c' := by rw [e2] at e1; simpa using e1
                        have RA := Lib.hid (hra j x hx)
                        have BN := Lib.hid (B9.out.alloc B9.out.size (.cells x.cs 59))
                        have TN := Lib.hid (T9.out.alloc (.cells x.cs 59))
                        have KN := Lib.hid (show PArr _ A0 62 qs from Bk.alloc K9.out (.cells x.cs 59))
                        have XN := Lib.hid (Bk.new wr 59 x.cs)
                        have X64 := Lib.hid ((O.out.bd x (List.mem_of_getElem? hx)).1)
                        obtain ⟨G, hG⟩ : ∃ G, G = wr.heap.size := ⟨_, rfl⟩
                        rw [← hG] at XN
                        clear e1 hat e2 hb1 hra hx T9 K9 B9
                        as_aux_lemma =>
                          go_upto_region 22 with (first | (refine load_im_off rfl _ rfl b1 off j x rfl RA.out ?_) | (refine store_im_new rfl _ _ rfl x rfl rfl ?_; rw [← hG]; clear hG; generalize wr.alloc (.cells x.cs 59) = w4 at *))
                          have x0 : w4.cell? ⟨G, 0, none⟩ = some (.int .i64 x.id) := im_id XN.out
                          by_cases hx6 : (6 : Int) ≤ x.id
                          · go_wp2
                            go_roundw
                            case rel => exact ⟨j + 1, m2, _, by have := HLT.out; omega, by have := MJ.out; omega, by go_num, TN.out, KN.out, BN.out⟩
                            case measure => have := HLT.out; simp [intOf]; omega
                          · have CP := Lib.hid (ts_set TN.out x.id x.p (by have := MJ.out; have := HJB.out; simp only [maxLen]; omega))
                            go_wp2_with (refine load_im_page rfl _ rfl G x rfl XN.out ?_)
                            refine CP.out.mono ?_
                            rintro e w6 ⟨rfl, hT, hg⟩
                            have T6 := Lib.hid hT
                            have B6 := Lib.hid (bl_grow BN.out hg (fun j hj => by cases hj; exact TN.out.hi.bb) BN.out.size)
                            have K6 := Lib.hid (show PArr w6 A0 62 qs from Bk.grown KN.out hg (fun e => by injection e with e; exact (TN.out.hi.mp.ne_bk KN.out) e.symm))
                            have X6 := Lib.hid (Bk.grown XN.out hg (fun e => by injection e with e; exact (TN.out.hi.mp.ne_bk XN.out) e.symm))
                            clear hT hg CP x0
                            have x0 : w6.cell? ⟨G, 0, none⟩ = some (.int .i64 x.id) := im_id X6.out
                            by_cases hs : sok x.id x.p
                            · rw [show setE x.id x.p = 0 from if_pos hs]
                              have HL := Lib.hid (show setL l2 x.id x.p = ins x.id x.p l2 from if_pos hs)
                              have CG := Lib.hid (ts_get T6.out x.id X64.out.1 X64.out.2)
                              rw [show tsGet ps l (setL l2 x.id x.p) x.id = (x.p, 0) by unfold tsGet stGet; rw [HL.out, look_ins]; unfold setPg; rw [if_pos rfl]] at CG
                              have NE := fun w => page_neq x.p x.p w
                              rw [pgB_self] at NE
                              clear hs
                              as_aux_lemma =>
                                go_wp2_with fail
                                refine CG.out.mono ?_
                                rintro e w7 ⟨rfl, hb⟩
                                have hbb := hb.alloc hb.size (.cells x.p.cs 42)
                                have T7 := Lib.hid (T6.out.kept hbb)
                                have K7 := Lib.hid (show PArr _ A0 62 qs from Bk.kept K6.out hbb)
                                have X7 := Lib.hid (Bk.kept X6.out hbb)
                                have B7 := Lib.hid (below_then B6.out hbb B6.out.size)
                                have P7 := Lib.hid (Bk.new w7 42 x.p.cs)
                                obtain ⟨G3, hG3⟩ : ∃ G3, G3 = w7.heap.size := ⟨_, rfl⟩
                                rw [← hG3] at P7
                                clear hb hbb CG T6 K6 B6 X6 x0
                                dsimp only
                                as_aux_lemma =>
                                  go_upto_region 25 with (refine store_page_new rfl _ _ rfl x.p rfl rfl ?_; rw [← hG3]; clear hG3; generalize w7.alloc (.cells x.p.cs 42) = w8 at *)
                                  go_wp2_with (first | (refine load_page_if _ rfl (by first | rfl | kernel_rfl) G3 x.p rfl P7.out ?_) | (refine load_im_page_if _ rfl (by first | rfl | kernel_rfl) G x rfl X7.out ?_))
                                  go_roundw
                                  case rel => exact ⟨j + 1, m2 + 1, _, by have := HLT.out; omega, by have := MJ.out; omega, by go_num, T7.out, K7.out, B7.out⟩
                                  case measure => have := HLT.out; simp [intOf]; omega
                            · rw [show setE x.id x.p = 1 from if_neg hs]
                              clear hs
                              go_wp2
                              go_roundw
                              case rel => exact ⟨j + 1, m2 + 1, _, by have := HLT.out; omega, by have := MJ.out; omega, by go_num, T6.out, K6.out, B6.out⟩
                              case measure => have := HLT.out; simp [intOf]; omega
                      · have hjn : j = o.length := by omega
                        subst hjn
                        clear hlt hj MJ
                        have QV := Lib.hid (fun (k : Nat) (hk : k < 6) => V8.out k hk)
                        clear V8
                        as_aux_lemma =>
                          go_wp2_with fail
                          go_loopw [95] (fun i wx => ∃ k : Nat, k ≤ 6 ∧ i = .int .i64 k ∧ TS wx w.heap.size g b m gs r ps l g2 b2 m2 l2 ∧ PArr wx A0 62 qs ∧ Below w.heap.size w wx) (fun i _ => 6 - (intOf i).toNat)
                          case atStart => exact ⟨0, Nat.zero_le _, rfl, T9.out, K9.out, B9.out⟩
                          case round =>
                            obtain ⟨k, hk, rfl, hT, hK, hb⟩ := hrel
                            have T10 := Lib.hid hT; have K10 := Lib.hid hK; have B10 := Lib.hid hb
                            clear hT hK hb T9 K9 B9
                            by_cases hlt : k < 6
                            · have HLT := Lib.hid hlt
                              obtain ⟨p, hp⟩ : ∃ p, p = (ssGet ps l k).1 := ⟨_, rfl⟩
                              have hqk := QV.out k hlt
                              have CG := Lib.hid (ss_get T10.out.lo k (by omega) (by omega))
                              rw [ssGet_in (by rw [PL.out]; exact hlt), ← hp] at CG
                              rw [← hp] at hqk
                              have NE := fun w => page_neq p p w
                              rw [pgB_self] at NE
                              clear hp
                              go_wp2_with fail
                              refine CG.out.mono ?_
                              rintro e wa ⟨rfl, hba⟩
                              have hbb := hba.alloc hba.size (.cells p.cs 42)
                              have T11 := Lib.hid (T10.out.kept hbb)
                              have K11 := Lib.hid (show PArr _ A0 62 qs from Bk.kept K10.out hbb)
                              have B11 := Lib.hid (below_then B10.out hbb B10.out.size)
                              have P11 := Lib.hid (Bk.new wa 42 p.cs)
                              have R11 := Lib.hid (K11.out.range hqk)
                              obtain ⟨G, hG⟩ : ∃ G, G = wa.heap.size := ⟨_, rfl⟩
                              rw [← hG] at P11
                              clear hba hbb CG T10 K10 B10 hqk
                              dsimp only
                              as_aux_lemma =>
                                go_upto_region 32 with (refine store_page_new rfl _ _ rfl p rfl rfl ?_; rw [← hG]; clear hG; generalize wa.alloc (.cells p.cs 42) = wb at *)
                                have hk6 : (k : Int) < 6 := by have := HLT.out; omega
                                refine wp_region_still_tail 7 (by kernel_rfl) (by kernel_rfl) ?_
                                simp only [List.take_succ_cons, List.take_zero, List.drop_succ_cons, List.drop_zero]
                                still_step
                                still_step
                                still_step
                                refine still_page_w _ rfl (by first | rfl | kernel_rfl) G p rfl P11.out.drew ?_
                                still_step
                                still_step
                                refine still_page_at_w _ rfl (by first | rfl | kernel_rfl) A0 (k * 16) p rfl R11.out ?_
                                refine wpStill_nil ?_
                                change wpList _ _ _ _ _ wb.drew
                                have TC := Lib.hid (T11.out.drewN 1)
                                have KC := Lib.hid (show PArr wb.drew A0 62 qs from K11.out)
                                have BC := Lib.hid (show Below w.heap.size w wb.drew from B11.out.drew)
                                clear T11 K11 B11
                                go_wp2
                                go_roundw
                                case rel => exact ⟨k + 1, by have := HLT.out; omega, by go_num, TC.out, KC.out, BC.out⟩
                                case measure => have := HLT.out; simp [intOf]; omega
                            · have hjn : k = 6 := by omega
                              subst hjn
                              rw [show ((6 : Nat) : Int) = 6 from rfl]
                              clear hlt hk
                              have CD := Lib.hid (ts_drop T10.out)
                              as_aux_lemma =>
                                go_wp2_with fail
                                refine CD.out.mono ?_
                                rintro e wa ⟨rfl, hT, hg⟩
                                have T11 := Lib.hid hT
                                have B11 := Lib.hid (bl_grow B10.out hg (fun j hj => by cases hj; exact T10.out.hi.bb) B10.out.size)
                                have K11 := Lib.hid (show PArr wa A0 62 qs from Bk.grown K10.out hg (fun e => by injection e with e; exact (T10.out.hi.mp.ne_bk K10.out) e.symm))
                                have CI := Lib.hid (ts_images hT)
                                clear hT hg CD T10 B10 K10
                                as_aux_lemma =>
                                  go_wp2_with fail
                                  refine CI.out.mono ?_
                                  have h0 : errL (ssGet ps l) [] = 0 := rfl
                                  have h1 : outL (ssGet ps l) [] = [] := rfl
                                  rintro e wa2 (⟨hne, -, -⟩ | ⟨-, v, rfl, hv, hb⟩)
                                  · exact absurd h0 hne
                                  rw [h1] at hv
                                  obtain ⟨ya, yc, rfl⟩ := ow_slice hv
                                  have T12 := Lib.hid (T11.out.kept hb)
                                  have K12 := Lib.hid (show PArr _ A0 62 qs from Bk.kept K11.out hb)
                                  have B12 := Lib.hid (below_then B11.out hb B11.out.size)
                                  have hll : ([] : List Im).length = 0 := rfl
                                  rw [hll]
                                  clear hv hb CI h0 h1 T11 K11 B11 hll
                                  as_aux_lemma =>
                                    go_wp2_with fail
                                    go_loopw [121] (fun i wx => ∃ k : Nat, k ≤ 6 ∧ i = .int .i64 k ∧ TS wx w.heap.size g b m gs r ps l g2 b2 0 [] ∧ PArr wx A0 62 qs ∧ Below w.heap.size w wx) (fun i _ => 6 - (intOf i).toNat)
                                    case atStart => exact ⟨0, Nat.zero_le _, rfl, T12.out, K12.out, B12.out⟩
                                    case round =>
                                      obtain ⟨k, hk, rfl, hT, hK, hb⟩ := hrel
                                      have T10 := Lib.hid hT; have K10 := Lib.hid hK; have B10 := Lib.hid hb
                                      clear hT hK hb T12 K12 B12
                                      by_cases hlt : k < 6
                                      · have HLT := Lib.hid hlt
                                        obtain ⟨p, hp⟩ : ∃ p, p = (ssGet ps l k).1 := ⟨_, rfl⟩
                                        have hqk := QV.out k hlt
                                        have CG := Lib.hid (ts_get T10.out k (by omega) (by omega))
                                        rw [show tsGet ps l [] k = ssGet ps l k from rfl, ssGet_in (by rw [PL.out]; exact hlt), ← hp] at CG
                                        rw [← hp] at hqk
                                        have NE := fun w => page_neq p p w
                                        rw [pgB_self] at NE
                                        clear hp
                                        go_wp2_with fail
                                        refine CG.out.mono ?_
                                        rintro e wa ⟨rfl, hba⟩
                                        have hbb := hba.alloc hba.size (.cells p.cs 42)
                                        have T11 := Lib.hid (T10.out.kept hbb)
                                        have K11 := Lib.hid (show PArr _ A0 62 qs from Bk.kept K10.out hbb)
                                        have B11 := Lib.hid (below_then B10.out hbb B10.out.size)
                                        have P11 := Lib.hid (Bk.new wa 42 p.cs)
                                        have R11 := Lib.hid (K11.out.range hqk)
                                        obtain ⟨G, hG⟩ : ∃ G, G = wa.heap.size := ⟨_, rfl⟩
                                        rw [← hG] at P11
                                        clear hba hbb CG T10 K10 B10 hqk
                                        dsimp only
                                        as_aux_lemma =>
                                          go_upto_region 41 with (refine store_page_new rfl _ _ rfl p rfl rfl ?_; rw [← hG]; clear hG; generalize wa.alloc (.cells p.cs 42) = wb at *)
                                          have hk6 : (k : Int) < 6 := by have := HLT.out; omega
                                          refine wp_region_still_tail 7 (by kernel_rfl) (by kernel_rfl) ?_
                                          simp only [List.take_succ_cons, List.take_zero, List.drop_succ_cons, List.drop_zero]
                                          still_step
                                          still_step
                                          still_step
                                          refine still_page_w _ rfl (by first | rfl | kernel_rfl) G p rfl P11.out.drew ?_
                                          still_step
                                          still_step
                                          refine still_page_at_w _ rfl (by first | rfl | kernel_rfl) A0 (k * 16) p rfl R11.out ?_
                                          refine wpStill_nil ?_
                                          change wpList _ _ _ _ _ wb.drew
                                          have TC := Lib.hid (T11.out.drewN 1)
                                          have KC := Lib.hid (show PArr wb.drew A0 62 qs from K11.out)
                                          have BC := Lib.hid (show Below w.heap.size w wb.drew from B11.out.drew)
                                          clear T11 K11 B11
                                          go_wp2
                                          go_roundw
                                          case rel => exact ⟨k + 1, by have := HLT.out; omega, by go_num, TC.out, KC.out, BC.out⟩
                                          case measure => have := HLT.out; simp [intOf]; omega
                                      · have hjn : k = 6 := by omega
                                        subst hjn
                                        rw [show ((6 : Nat) : Int) = 6 from rfl]
                                        clear hlt hk
                                        go_wp2
                                        go_ret
                                        exact ⟨rfl, B10.out⟩
end Go.Proofs.Ythapmkgcaghadaa
