/- The walk of WalGoesOn. -/
import Derived.Test.YtplcddcdhnjfeaaWalWq
import Derived.Test.YtplcddcdhnjfeaaWalRead2
set_option linter.unusedVariables false
set_option linter.unusedSimpArgs false
namespace Go.Proofs.Ytplcddcdhnjfeaa
open Go.RowKit

set_option maxRecDepth 100000 in
set_option maxHeartbeats 8000000 in
theorem walk_WalGoesOn (v : Value) (q : Gon) (w : World) (hq : IsGon w v q) :
    Calls Try.prog 4 #[v] w fun e w' => e = .returned (.bool true) ∧ Below w.heap.size w w' := by
  have CA := Lib.hid (fun w => awake_any w)
  have CN := Lib.hid (fun w => new_good 130 w (by omega) (by omega))
  obtain ⟨rv, mr, s, nv, mn, t, flush, kv, mk, kb, av, ma, ab⟩ := q
  obtain ⟨rfl, hR, hRm, hRs, hN, hNm, hNs, hK, hA, hKm, hfu⟩ := hq
  dsimp only at hR hRm hRs hN hNm hNs hK hA hKm hfu ⊢
  have RQ := Lib.hid hR; have NQ := Lib.hid hN; have KQ := Lib.hid hK; have AQ := Lib.hid hA
  have RS := Lib.hid hRs; have NS := Lib.hid hNs
  obtain ⟨ra, rc, rfl, -⟩ := hR
  obtain ⟨na, nc, rfl, -⟩ := hN
  obtain ⟨ka, kc, rfl, -⟩ := hK
  obtain ⟨aa, ac, rfl, -⟩ := hA
  have hmr : mr ≤ 9223372036854775807 := by unfold maxLen at hRm; omega
  have hmn : mn ≤ 9223372036854775807 := by unfold maxLen at hNm; omega
  have FU := Lib.hid hfu
  clear hRm hNm hKm hRs hNs hfu
  have B0 := Lib.hid ((Below.refl w.heap.size w).alloc (Nat.le_refl _) (.cells (Gon.cs ⟨.slice ra mr rc, mr, s, .slice na mn nc, mn, t, flush, .slice ka mk kc, mk, kb, .slice aa ma ac, ma, ab⟩) 49))
  unfold Gon.cs at B0 ⊢
  dsimp only at B0 ⊢
  go_enter Try.func4, Try.ntmps4
  go_wp2_with fail
  go_region
  as_aux_lemma =>
    go_wp2_with fail
    refine (CA.out _).mono ?_
    rintro e w1 ⟨rfl, hb⟩
    have B1 := Lib.hid (B0.out.drew.trans (hb.mono B0.out.size))
    clear hb CA B0
    as_aux_lemma =>
      go_wp2_with fail
      refine (CN.out _).mono ?_
      rintro e w2 ⟨I, rfl, hd, hb⟩
      have B2 := Lib.hid (below_then B1.out hb B1.out.size)
      have CC := Lib.hid (create_good 130 2 128 hd (by omega) (by omega) (by omega) hb.size)
      have HS := Lib.hid B1.out.size
      clear hd hb CN B1
      generalize w1.heap.size = B at *
      unfold Ids.ptr at *
      as_aux_lemma =>
        go_wp2_with fail
        refine CC.out.mono ?_
        rintro e w3 ⟨g, p', rfl, hw, hb⟩
        have B3 := Lib.hid (B2.out.trans (hb.mono HS.out))
        have W3 := Lib.hid hw
        have P3 := Lib.hid (show Wq 130 2 128 54 ⟨#[]⟩ (Lg.new 2 128) (.start (blanks 130)) [] 0 from wq_new 130 2 128 (-1) (by omega) (by omega) (by omega) (by omega))
        have R3 := Lib.hid (show Run (.start (blanks 130)) from ⟨rfl, rfl⟩)
        have HB := Lib.hid (show B ≤ w3.heap.size from by have := hw.bg; have := hw.box.lt; dsimp only at *; omega)
        clear hw hb CC B2
        as_aux_lemma =>
          go_wp2_with fail
          go_loopw [54] (fun i wr => ∃ (j : Nat) (J : Wd) (L : Lg) (S : Dsk) (all : List ByteArray), j ≤ mr ∧ i = .int .i64 j ∧ J.g = g ∧ J.d.g = I.g ∧ Wl wr B J L S ∧ Wq 130 2 128 54 ⟨#[]⟩ L S all 0 ∧ Run S ∧ B ≤ wr.heap.size ∧ Below w.heap.size w wr) (fun i _ => mr - (intOf i).toNat)
          case atStart => exact ⟨0, _, _, _, [], Nat.zero_le _, rfl, rfl, rfl, W3.out, P3.out, R3.out, HB.out, B3.out⟩
          case round =>
            obtain ⟨j, J, L, S, all, hj, rfl, hJ, hI, hW, hP, hR, hBw, hb⟩ := hrel
            have W := Lib.hid hW; have BB := Lib.hid hb; have HW := Lib.hid hBw; have P := Lib.hid hP; have R := Lib.hid hR
            have LB := Lib.hid (show L.fin ≤ 7000 from by have := hP.fin; have := hP.most; omega)
            clear hW hb hBw hP hR W3 B3 HB P3 R3
            as_aux_lemma =>
              by_cases hlt : j < mr
              · have HLT := Lib.hid hlt
                obtain ⟨a', c', e', hq'⟩ := RQ.out
                obtain ⟨rfl, rfl⟩ : ra = a' ∧ rc = c' := by simpa using e'
                obtain ⟨b, off, hsa, hlb, hc⟩ := hq' (by omega)
                subst hsa
                have q0 : wr.cell? ⟨b, off + j, none⟩ = some (.string (s j)) := by
                  rw [BB.out.cell (p := ⟨b, off + j, none⟩) hlb]; exact hc j hlt
                have RZ := Lib.hid (RS.out j hlt)
                clear hc e' hq'
                generalize s j = rec at *
                have CAp := Lib.hid (append_wq W.out P.out rec HW.out RZ.out (by have := LB.out; omega))
                unfold Wd.ptr at CAp
                rw [hJ] at CAp
                go_wp2_with fail
                refine CAp.out.mono ?_
                rintro e w6 ⟨dv, pv, ho, ⟨er, rfl, hne, hne', hw6⟩ | ⟨rfl, -, -, -, hfin, hw6, hq6⟩⟩
                · have W6 := Lib.hid hw6
                  have B6 := Lib.hid (BB.out.trans ((app_below W.out ho HW.out).mono HS.out))
                  have HW6 := Lib.hid (Nat.le_trans HW.out ho.size)
                  clear hw6 ho CAp W BB HW q0
                  as_aux_lemma =>
                    go_wp2_with fail
                    go_roundw
                    case rel => exact ⟨j + 1, ⟨g, J.d, dv, pv⟩, L, S, all, by have := HLT.out; omega, by go_num, rfl, hI, W6.out, P.out, R.out, HW6.out, B6.out⟩
                    case measure => have := HLT.out; simp [intOf]; omega
                · have W6 := Lib.hid hw6
                  have P6 := Lib.hid hq6
                  have B6 := Lib.hid (BB.out.trans ((app_below W.out ho HW.out).mono HS.out))
                  have HW6 := Lib.hid (Nat.le_trans HW.out ho.size)
                  clear hw6 ho CAp W BB HW q0 hq6 P
                  generalize L.more rec = L2 at *
                  as_aux_lemma =>
                    by_cases hfl : (j : Int) = flush
                    · have hf0 : ((j : Int) == flush) = true := by simp [hfl]
                      have CFl := Lib.hid (flush_wq W6.out P6.out ((L.fin : Nat) : Int) HW6.out)
                      unfold Wd.ptr at CFl
                      dsimp only at CFl
                      clear hfl
                      go_wp2_with fail
                      refine CFl.out.mono ?_
                      rintro e w7 ⟨p7, L7, S7, er, rfl, hw7, hq7, -, -, hr7, hfi7, ho7⟩
                      have W7 := Lib.hid hw7; have P7 := Lib.hid hq7; have R7 := Lib.hid (hr7 R.out).2
                      have B7 := Lib.hid (B6.out.trans ((df_below W6.out ho7 HW6.out).mono HS.out))
                      have HW7 := Lib.hid (Nat.le_trans HW6.out ho7.size)
                      clear hw7 hq7 hr7 hfi7 ho7 CFl W6 P6 R B6 HW6
                      as_aux_lemma =>
                        go_wp2_with fail
                        go_roundw
                        case rel => exact ⟨j + 1, ⟨g, J.d.with p7, dv, pv⟩, L7, S7, _, by have := HLT.out; omega, by go_num, rfl, hI, W7.out, P7.out, R7.out, HW7.out, B7.out⟩
                        case measure => have := HLT.out; simp [intOf]; omega
                    · have hf0 : ((j : Int) == flush) = false := by simp [hfl]
                      clear hfl
                      go_wp2_with fail
                      go_roundw
                      case rel => exact ⟨j + 1, ⟨g, J.d, dv, pv⟩, L2, S, _, by have := HLT.out; omega, by go_num, rfl, hI, W6.out, P6.out, R.out, HW6.out, B6.out⟩
                      case measure => have := HLT.out; simp [intOf]; omega
              · -- behind the loop: all is flushed
                have CFl := Lib.hid (flush_wq W.out P.out 1099511627776 HW.out)
                unfold Wd.ptr at CFl
                rw [hJ] at CFl
                clear RQ RS
                go_wp2_with fail
                refine CFl.out.mono ?_
                rintro e w7 ⟨p7, L7, S7, er, rfl, hw7, hq7, -, -, hr7, hfi7, ho7⟩
                have W7 := Lib.hid hw7; have P7 := Lib.hid hq7; have R7 := Lib.hid (hr7 R.out).2
                have B7 := Lib.hid (BB.out.trans ((df_below W.out ho7 HW.out).mono HS.out))
                have HW7 := Lib.hid (Nat.le_trans HW.out ho7.size)
                have LB7 := Lib.hid (show L7.fin ≤ 7000 from by rw [hfi7]; exact LB.out)
                clear hw7 hq7 hr7 hfi7 ho7 CFl W P R BB HW LB hlt
                as_aux_lemma =>
                  have CAp := Lib.hid (fun rec (h : rec.size ≤ maxLen) => append_wq W7.out P7.out rec HW7.out h (by have := LB7.out; omega))
                  unfold Wd.ptr at CAp
                  dsimp only at CAp
                  go_wp2_with fail
                  refine (CAp.out _ ?lostsize).mono ?_
                  case lostsize => decide
                  rintro e w8 ⟨dv, pv, ho, hcase⟩
                  have B8 := Lib.hid (B7.out.trans ((app_below W7.out ho HW7.out).mono HS.out))
                  have HW8 := Lib.hid (Nat.le_trans HW7.out ho.size)
                  clear ho CAp B7 HW7
                  obtain ⟨ax, er, rfl, hcase'⟩ : ∃ ax er : Int, e = .returned (.tuple #[.int .i64 ax, .int .i64 er]) ∧ (((er == 0) = false ∧ Wl w8 B ⟨g, J.d.with p7, dv, pv⟩ L7 S7 ∧ Wq 130 2 128 54 ⟨#[]⟩ L7 S7 all 0) ∨ ((er == 0) = true ∧ ∃ L8 al8, Wl w8 B ⟨g, J.d.with p7, dv, pv⟩ L8 S7 ∧ Wq 130 2 128 54 ⟨#[]⟩ L8 S7 al8 0)) := by
                    rcases hcase with ⟨er, rfl, h1, h2, h3⟩ | ⟨rfl, -, -, -, -, h3, h4⟩
                    · exact ⟨0, er, rfl, .inl ⟨h2, h3, P7.out⟩⟩
                    · exact ⟨_, 0, rfl, .inr ⟨rfl, _, _, h3, h4⟩⟩
                  clear hcase W7 P7 R7 LB7
                  as_aux_lemma =>
                    go_upto_if 84 with fail
                    go_cut [] (fun wx => ∃ (J2 : Wd) (L2 : Lg) (S2 : Dsk) (al2 : List ByteArray), J2.d.g = I.g ∧ Wl wx B J2 L2 S2 ∧ Wq 130 2 128 54 ⟨#[]⟩ L2 S2 al2 0 ∧ B ≤ wx.heap.size ∧ Below w.heap.size w wx)
                    case first =>
                      rcases hcase' with ⟨he, hw, hq⟩ | ⟨he, L8, al8, hw, hq⟩
                      · have W8 := Lib.hid hw; have P8 := Lib.hid hq
                        clear hw hq
                        go_wp2_with fail
                        go_meet
                        exact ⟨⟨g, J.d.with p7, dv, pv⟩, _, _, _, hI, W8.out, P8.out, HW8.out, B8.out⟩
                      · have W8 := Lib.hid hw; have P8 := Lib.hid hq
                        have CF := Lib.hid (fuel_any hw.dsk 2 (by omega))
                        unfold Ids.ptr Ids.with at CF
                        dsimp only at CF
                        rw [hI] at CF
                        clear hw hq
                        go_wp2_with fail
                        refine CF.out.mono ?_
                        rintro e w9 ⟨rfl, hd, ho⟩
                        rw [← hI] at hd ho
                        have W9 := Lib.hid (W8.out.disk (p' := p7) hd ho)
                        have P9 := Lib.hid (P8.out.fuel 2)
                        have B9 := Lib.hid (B8.out.trans ((df_below W8.out (df_one W8.out.dsk ho) HW8.out).mono HS.out))
                        have HW9 := Lib.hid (Nat.le_trans HW8.out ho.size)
                        clear hd ho CF W8 P8 B8 HW8
                        have CFl := Lib.hid (flush_wq W9.out P9.out ax HW9.out)
                        unfold Wd.ptr at CFl
                        dsimp only at CFl
                        go_wp2_with fail
                        refine CFl.out.mono ?_
                        rintro e w10 ⟨p10, L10, S10, er10, rfl, hw10, hq10, -, -, -, -, ho10⟩
                        have W10 := Lib.hid hw10; have P10 := Lib.hid hq10
                        have B10 := Lib.hid (B9.out.trans ((df_below W9.out ho10 HW9.out).mono HS.out))
                        have HW10 := Lib.hid (Nat.le_trans HW9.out ho10.size)
                        clear hw10 hq10 ho10 CFl W9 P9 B9 HW9
                        go_wp2_with fail
                        go_meet
                        exact ⟨⟨g, J.d.with p10, dv, pv⟩, _, _, _, hI, W10.out, P10.out, HW10.out, B10.out⟩
                    case rest =>
                      obtain ⟨J2, L2, S2, al2, hI2, hw2, hq2, hB2, hb2⟩ := hcut
                      have W := Lib.hid hw2; have P := Lib.hid hq2; have HW := Lib.hid hB2; have BB := Lib.hid hb2
                      clear hw2 hq2 hB2 hb2 hcase' B8 HW8 hJ hI
                      as_aux_lemma =>
                        have CC := Lib.hid (crash_any W.out.dsk (.slice ka mk kc) mk kb ((KQ.out.kept BB.out (Nat.le_refl _)).mono HS.out))
                        unfold Ids.ptr at CC
                        rw [hI2] at CC
                        go_wp2_with fail
                        refine CC.out.mono ?_
                        rintro e w10 ⟨J1, rfl, -, hd6, ho6, hp6⟩
                        have D6 := Lib.hid hd6
                        have B6 := Lib.hid (BB.out.trans ((foot_below W.out.dsk ho6 HW.out).mono HS.out))
                        have HC6 := Lib.hid ho6.size
                        have HBC := Lib.hid (Nat.le_trans HS.out HW.out)
                        generalize wc.heap.size = Bc at *
                        clear hd6 ho6 CC W HW BB KQ
                        have CO := Lib.hid (open_wq D6.out P.out mk kb rfl (by omega) (by omega) HC6.out)
                        unfold Ids.ptr at CO
                        as_aux_lemma =>
                          go_wp2_with fail
                          refine CO.out.mono ?_
                          rintro e w11 ⟨k, p11, g2, ea, ec, dv2, pv2, L11, S11, -, hk, rfl, hE, hW, hQ, hR, hb⟩
                          have W11 := Lib.hid hW; have P11 := Lib.hid hQ; have R11 := Lib.hid hR
                          have lk : (al2.take k).length = k := by rw [List.length_take]; omega
                          have E11 := Lib.hid (show w11.ownsRow Bc 40 2 (.slice ea k ec) (al2.take k).length (enL 54 (al2.take k)) from by rw [lk]; exact hE)
                          have B11 := Lib.hid (B6.out.trans (hb.mono HBC.out))
                          have HC11 := Lib.hid (Nat.le_trans HC6.out hb.size)
                          have K1 := Lib.hid lk
                          clear hW hQ hR hE hb CO D6 B6 HC6 P hk lk
                          generalize al2.take k = left at *
                          as_aux_lemma =>
                            go_wp2_with fail
                            go_loopw [21, 104] (fun lv i wr => ∃ (j : Nat) (pd dv pv : Value) (L : Lg) (al : List ByteArray), j ≤ mn ∧ i = .int .i64 j ∧ Wl wr Bc ⟨g2, J1.with pd, dv, pv⟩ L S11 ∧ Wq 130 2 128 54 ⟨#[]⟩ L S11 al 0 ∧ wr.ownsRow Bc 40 2 lv al.length (enL 54 al) ∧ Bc ≤ wr.heap.size ∧ Below w.heap.size w wr) (fun _ i _ => mn - (intOf i).toNat)
                            case atStart => exact ⟨0, _, _, _, _, left, Nat.zero_le _, rfl, W11.out, P11.out.less (Nat.zero_le _), E11.out, HC11.out, B11.out⟩
                            case round =>
                              obtain ⟨j, pd, dv, pv, L, al, hj, rfl, hW, hP, hE, hBw, hb⟩ := hrel
                              have W := Lib.hid hW; have BB := Lib.hid hb; have HW := Lib.hid hBw; have P := Lib.hid hP; have EV := Lib.hid hE
                              have FI := Lib.hid hP.fin
                              have MO := Lib.hid (show total al ≤ 7000 from by have := hP.most; omega)
                              have LB := Lib.hid (show L.fin ≤ 8000 from by have := hP.fin; have := hP.most; omega)
                              have LT := Lib.hid (len_total al)
                              clear hW hb hBw hP hE W11 P11 E11 HC11 B11
                              as_aux_lemma =>
                                by_cases hlt : j < mn
                                · have HLT := Lib.hid hlt
                                  obtain ⟨a', c', e', hq'⟩ := NQ.out
                                  obtain ⟨rfl, rfl⟩ : na = a' ∧ nc = c' := by simpa using e'
                                  obtain ⟨b, off, hsa, hlb, hc⟩ := hq' (by omega)
                                  subst hsa
                                  have q0 : wr.cell? ⟨b, off + j, none⟩ = some (.string (t j)) := by
                                    rw [BB.out.cell (p := ⟨b, off + j, none⟩) hlb]; exact hc j hlt
                                  have RZ := Lib.hid (NS.out j hlt)
                                  clear hc e' hq'
                                  generalize t j = rec at *
                                  have NE := Lib.hid (enL_snoc al 54 rec)
                                  rw [← FI.out] at NE
                                  have CAp := Lib.hid (append_wq W.out P.out rec HW.out RZ.out (by have := LB.out; omega))
                                  unfold Wd.ptr at CAp
                                  dsimp only at CAp
                                  go_wp2_with fail
                                  refine CAp.out.mono ?_
                                  rintro e w6 ⟨dv, pv, ho, ⟨er, rfl, hne, hne', hw6⟩ | ⟨rfl, -, -, -, hfin, hw6, hq6⟩⟩
                                  · have W6 := Lib.hid hw6
                                    have B6 := Lib.hid (BB.out.trans ((app_below W.out ho HW.out).mono HBC.out))
                                    have HW6 := Lib.hid (Nat.le_trans HW.out ho.size)
                                    have E6 := Lib.hid (ent_app W.out EV.out ho)
                                    clear hw6 ho CAp W BB HW q0 EV
                                    as_aux_lemma =>
                                      go_wp2_with fail
                                      go_roundw
                                      case rel => exact ⟨j + 1, pd, dv, pv, L, al, by have := HLT.out; omega, by go_num, W6.out, P.out, E6.out, HW6.out, B6.out⟩
                                      case measure => have := HLT.out; simp [intOf]; omega
                                  · have W6 := Lib.hid hw6
                                    have P6 := Lib.hid hq6
                                    have B6 := Lib.hid (BB.out.trans ((app_below W.out ho HW.out).mono HBC.out))
                                    have HW6 := Lib.hid (Nat.le_trans HW.out ho.size)
                                    have E6 := Lib.hid (ent_app W.out EV.out ho)
                                    clear hw6 ho CAp W BB HW q0 hq6 P EV hfin
                                    generalize L.more rec = L2 at *
                                    as_aux_lemma =>
                                      obtain ⟨i3, hi3, hz0, hz1, hz2⟩ := info_parts Try.info40
                                      have T0 := Lib.hid (Bk.new w6 40 #[.int .i64 L.fin, .string rec])
                                      have WA := Lib.hid (W6.out.kept ((Below.refl _ _).alloc (Nat.le_refl _) (.cells #[.int .i64 L.fin, .string rec] 40)))
                                      have EA := Lib.hid (World.ownsRow.alloc E6.out (.cells #[.int .i64 L.fin, .string rec] 40))
                                      have HBA := Lib.hid (show Bc ≤ (w6.alloc (.cells #[.int .i64 L.fin, .string rec] 40)).heap.size from by have := HW6.out; simp; omega)
                                      obtain ⟨la, lc, hle⟩ := tx_slice EA.out
                                      subst hle
                                      have ll : al.length ≤ 7000 := Nat.le_trans LT.out MO.out
                                      go_wp2_with (at_builtin; refine wpList_append_own_at _ rfl _ _ 36 rfl Bc 40 i3 (.agg #[.int .i64 0, .string ⟨#[]⟩]) 2 24 Try.underlying36 hi3 hz0 hz1 hz2 rfl (by decide) (.slice la al.length lc) al.length (enL 54 al) rfl EA.out ⟨w6.heap.size, 0, none⟩ 1 1 [.int .i64 L.fin, .string rec] rfl rfl ?rc2 ?rc3 ?rc4 ?rc5 ?rc6 ?_)
                                      case rc2 =>
                                        intro j u hj
                                        rw [Addr.add_lit, Nat.zero_add]
                                        refine Eq.trans (T0.out.cell j) ?_
                                        simpa using hj
                                      case rc3 => simp [Value.oneCell']
                                      case rc4 => unfold maxLen; omega
                                      case rc5 => omega
                                      case rc6 => exact HBA.out
                                      intro ev2 w7 hown hgrow _ _
                                      have hre : ∀ k, (Value.slice la al.length lc).ownBlock = some k → ∃ cur, Bk (w6.alloc (.cells #[.int .i64 L.fin, .string rec] 40)) k 40 cur := fun k hk => (owns_block EA.out hk).2.2
                                      have W7 := Lib.hid (WA.out.egrown hgrow hre)
                                      have E7 := Lib.hid (show w7.ownsRow Bc 40 2 ev2 (al ++ [rec]).length (enL 54 (al ++ [rec])) from by rw [NE.out, List.length_append]; exact hown)
                                      have B7 := Lib.hid ((B6.out.alloc B6.out.size (.cells #[.int .i64 L.fin, .string rec] 40)).trans (((Below.refl _ _).grown hgrow HBA.out (fun k hk => (owns_block EA.out hk).1)).mono HBC.out))
                                      have HW7 := Lib.hid (Nat.le_trans HBA.out hgrow.size)
                                      clear hown hgrow hre T0 WA EA HBA W6 E6 B6 HW6
                                      as_aux_lemma =>
                                        go_wp2_with fail
                                        go_roundw
                                        case rel => exact ⟨j + 1, pd, dv, pv, L2, al ++ [rec], by have := HLT.out; omega, by go_num, W7.out, P6.out, E7.out, HW7.out, B7.out⟩
                                        case measure => have := HLT.out; simp [intOf]; omega
                                · obtain ⟨la, lc, hle⟩ := tx_slice EV.out
                                  subst hle
                                  have CFl := Lib.hid (flush_wq W.out P.out 1099511627776 HW.out)
                                  unfold Wd.ptr at CFl
                                  dsimp only at CFl
                                  go_wp2_with fail
                                  refine CFl.out.mono ?_
                                  rintro e w12 ⟨p12, L12, S12, er, rfl, hw12, -, hq12, -, hr12, hfi12, ho12⟩
                                  obtain ⟨rfl, hR12⟩ := hr12 R11.out
                                  have W12 := Lib.hid hw12; have P12 := Lib.hid (hq12 rfl (by have := LB.out; omega)).1
                                  have B12 := Lib.hid (BB.out.trans ((df_below W.out ho12 HW.out).mono HBC.out))
                                  have HW12 := Lib.hid (Nat.le_trans HW.out ho12.size)
                                  have E12 := Lib.hid (ent_df W.out EV.out ho12)
                                  have LB12 := Lib.hid (show L12.fin ≤ 8000 from by rw [hfi12]; exact LB.out)
                                  have FI12 := Lib.hid (P12.out.fin)
                                  clear hw12 hq12 hr12 hfi12 ho12 CFl W P BB HW EV hR12 R11 LB FI NQ NS hlt
                                  as_aux_lemma =>
                                    have CAp := Lib.hid (fun rec (h : rec.size ≤ maxLen) => append_wq W12.out P12.out rec HW12.out h (by have := LB12.out; omega))
                                    unfold Wd.ptr at CAp
                                    dsimp only at CAp
                                    go_wp2_with fail
                                    refine (CAp.out _ ?moresize).mono ?_
                                    case moresize => decide
                                    rintro e w8 ⟨dv, pv, ho, hcase⟩
                                    have B8 := Lib.hid (B12.out.trans ((app_below W12.out ho HW12.out).mono HBC.out))
                                    have HW8 := Lib.hid (Nat.le_trans HW12.out ho.size)
                                    have E8 := Lib.hid (ent_app W12.out E12.out ho)
                                    clear ho CAp B12 HW12 E12
                                    obtain ⟨ax, er, rfl, hcase'⟩ : ∃ ax er : Int, e = .returned (.tuple #[.int .i64 ax, .int .i64 er]) ∧ (((er == 0) = false ∧ Wl w8 Bc ⟨g2, J1.with p12, dv, pv⟩ L12 S12 ∧ Wq 130 2 128 54 ⟨#[]⟩ L12 S12 al al.length) ∨ ((er == 0) = true ∧ ax = (L12.fin : Int) ∧ ∃ L8, Wl w8 Bc ⟨g2, J1.with p12, dv, pv⟩ L8 S12 ∧ Wq 130 2 128 54 ⟨#[]⟩ L8 S12 (al ++ [(⟨#[111, 110, 101, 32, 109, 111, 114, 101]⟩ : ByteArray)]) al.length)) := by
                                      rcases hcase with ⟨er, rfl, h1, h2, h3⟩ | ⟨rfl, -, -, -, -, h3, h4⟩
                                      · exact ⟨0, er, rfl, .inl ⟨h2, h3, P12.out⟩⟩
                                      · exact ⟨_, 0, rfl, .inr ⟨rfl, rfl, _, h3, h4⟩⟩
                                    clear hcase W12 P12 LB12
                                    as_aux_lemma =>
                                      go_upto_if 134 with fail
                                      go_cut [21] (fun s21 wx => ∃ (p2 dv pv : Value) (L2 : Lg) (al2 : List ByteArray), Wl wx Bc ⟨g2, J1.with p2, dv, pv⟩ L2 S12 ∧ Wq 130 2 128 54 ⟨#[]⟩ L2 S12 al2 al.length ∧ wx.ownsRow Bc 40 2 s21 al2.length (enL 54 al2) ∧ Bc ≤ wx.heap.size ∧ Below w.heap.size w wx)
                                      case first =>
                                        rcases hcase' with ⟨he, hw, hq⟩ | ⟨he, hax, L8, hw, hq⟩
                                        · have W8 := Lib.hid hw; have P8 := Lib.hid hq
                                          clear hw hq
                                          go_wp2_with fail
                                          go_meet
                                          exact ⟨p12, dv, pv, _, al, W8.out, P8.out, E8.out, HW8.out, B8.out⟩
                                        · have W6 := Lib.hid hw; have P8 := Lib.hid hq
                                          subst hax
                                          obtain ⟨w6, hw6⟩ : ∃ w6, w6 = w8 := ⟨_, rfl⟩
                                          rw [← hw6] at W6 E8 HW8 B8 ⊢
                                          have E6 := Lib.hid E8.out; have B6 := Lib.hid B8.out; have HW6 := Lib.hid HW8.out
                                          clear hw hq hw6 E8 B8 HW8
                                          generalize L12 = L at *
                                          have NE := Lib.hid (enL_snoc al 54 ⟨#[111, 110, 101, 32, 109, 111, 114, 101]⟩)
                                          rw [← FI12.out] at NE
                                          obtain ⟨i3, hi3, hz0, hz1, hz2⟩ := info_parts Try.info40
                                          have T0 := Lib.hid (Bk.new w6 40 #[.int .i64 L.fin, .string ⟨#[111, 110, 101, 32, 109, 111, 114, 101]⟩])
                                          have WA := Lib.hid (W6.out.kept ((Below.refl _ _).alloc (Nat.le_refl _) (.cells #[.int .i64 L.fin, .string ⟨#[111, 110, 101, 32, 109, 111, 114, 101]⟩] 40)))
                                          have EA := Lib.hid (World.ownsRow.alloc E6.out (.cells #[.int .i64 L.fin, .string ⟨#[111, 110, 101, 32, 109, 111, 114, 101]⟩] 40))
                                          have HBA := Lib.hid (show Bc ≤ (w6.alloc (.cells #[.int .i64 L.fin, .string ⟨#[111, 110, 101, 32, 109, 111, 114, 101]⟩] 40)).heap.size from by have := HW6.out; simp; omega)
                                          have ll : al.length ≤ 7000 := Nat.le_trans LT.out MO.out
                                          go_wp2_with (at_builtin; refine wpList_append_own_at _ rfl _ _ 36 rfl Bc 40 i3 (.agg #[.int .i64 0, .string ⟨#[]⟩]) 2 24 Try.underlying36 hi3 hz0 hz1 hz2 rfl (by decide) (.slice la al.length lc) al.length (enL 54 al) rfl EA.out ⟨w6.heap.size, 0, none⟩ 1 1 [.int .i64 L.fin, .string ⟨#[111, 110, 101, 32, 109, 111, 114, 101]⟩] rfl rfl ?rc2 ?rc3 ?rc4 ?rc5 ?rc6 ?_)
                                          case rc2 =>
                                            intro j u hj
                                            rw [Addr.add_lit, Nat.zero_add]
                                            refine Eq.trans (T0.out.cell j) ?_
                                            simpa using hj
                                          case rc3 => simp [Value.oneCell']
                                          case rc4 => unfold maxLen; omega
                                          case rc5 => omega
                                          case rc6 => exact HBA.out
                                          intro ev2 w7 hown hgrow _ _
                                          have hre : ∀ k, (Value.slice la al.length lc).ownBlock = some k → ∃ cur, Bk (w6.alloc (.cells #[.int .i64 L.fin, .string ⟨#[111, 110, 101, 32, 109, 111, 114, 101]⟩] 40)) k 40 cur := fun k hk => (owns_block EA.out hk).2.2
                                          have W7 := Lib.hid (WA.out.egrown hgrow hre)
                                          have E7 := Lib.hid (show w7.ownsRow Bc 40 2 ev2 (al ++ [(⟨#[111, 110, 101, 32, 109, 111, 114, 101]⟩ : ByteArray)]).length (enL 54 (al ++ [(⟨#[111, 110, 101, 32, 109, 111, 114, 101]⟩ : ByteArray)])) from by rw [NE.out, List.length_append]; exact hown)
                                          have B7 := Lib.hid ((B6.out.alloc B6.out.size (.cells #[.int .i64 L.fin, .string ⟨#[111, 110, 101, 32, 109, 111, 114, 101]⟩] 40)).trans (((Below.refl _ _).grown hgrow HBA.out (fun k hk => (owns_block EA.out hk).1)).mono HBC.out))
                                          have HW7 := Lib.hid (Nat.le_trans HBA.out hgrow.size)
                                          clear hown hgrow hre T0 WA EA HBA W6 E6 B6 HW6
                                          go_wp2_with fail
                                          go_meet
                                          exact ⟨p12, dv, pv, _, _, W7.out, P8.out, E7.out, HW7.out, B7.out⟩
                                      case rest =>
                                        obtain ⟨p2, dv3, pv3, L2, al2, hw2, hq2, hE2, hB2, hb2⟩ := hcut
                                        have W := Lib.hid hw2; have P := Lib.hid hq2; have HW := Lib.hid hB2; have BB := Lib.hid hb2; have EV := Lib.hid hE2
                                        obtain ⟨na, nc, hne⟩ := tx_slice EV.out
                                        subst hne
                                        have MO2 := Lib.hid (show al2.length ≤ 9223372036854775807 from by have := P.out.most; have := len_total al2; omega)
                                        clear hw2 hq2 hB2 hb2 hcase' B8 HW8 hE2 E8
                                        as_aux_lemma =>
                                          have CC := Lib.hid (crash_any W.out.dsk (.slice aa ma ac) ma ab ((AQ.out.kept BB.out (Nat.le_refl _)).mono HBC.out))
                                          unfold Ids.ptr Ids.with at CC
                                          dsimp only at CC
                                          go_wp2_with fail
                                          refine CC.out.mono ?_
                                          rintro e w10 ⟨J3, rfl, -, hd6, ho6, hp6⟩
                                          have D6 := Lib.hid hd6
                                          have B6 := Lib.hid (BB.out.trans ((foot_below W.out.dsk ho6 HW.out).mono HBC.out))
                                          have HC6 := Lib.hid ho6.size
                                          have HBD := Lib.hid (Nat.le_trans HBC.out HW.out)
                                          have E6 := Lib.hid (ent_foot W.out.dsk EV.out ho6)
                                          have EL := Lib.hid (own_lt EV.out)
                                          generalize wc.heap.size = Bd at *
                                          clear hd6 ho6 CC W HW BB AQ EV
                                          have CO := Lib.hid (open_wq D6.out P.out ma ab rfl (by omega) (by omega) HC6.out)
                                          unfold Ids.ptr at CO
                                          as_aux_lemma =>
                                            go_wp2_with fail
                                            refine CO.out.mono ?_
                                            rintro e w11 ⟨k, p11, g3, ea, ec, dv2, pv2, L11, S11, hk1, hk2, rfl, hE, -, -, -, hb⟩
                                            have CP := Lib.hid (prefix_own 54 (ent_under E6.out EL.out hb) hE hk2 MO2.out al.length hk1)
                                            have B11 := Lib.hid (B6.out.trans (hb.mono HBD.out))
                                            clear hE hb CO D6 B6 E6 HC6 P
                                            as_aux_lemma =>
                                              go_wp2_with fail
                                              refine CP.out.mono ?_
                                              rintro e w12 ⟨rfl, hb12⟩
                                              have B12 := Lib.hid (below_then B11.out hb12 B11.out.size)
                                              clear hb12 CP B11
                                              go_wp2_with fail
                                              go_ret
                                              exact ⟨rfl, B12.out⟩
end Go.Proofs.Ytplcddcdhnjfeaa
