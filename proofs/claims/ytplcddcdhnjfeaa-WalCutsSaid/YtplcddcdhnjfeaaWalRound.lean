/- The walk of round. -/
import Derived.Test.YtplcddcdhnjfeaaWalWq2
import Derived.Test.YtplcddcdhnjfeaaWalRead
set_option linter.unusedVariables false
set_option linter.unusedSimpArgs false
namespace Go.Proofs.Ytplcddcdhnjfeaa
open Go.RowKit

/-- A log's own block alone has turned. -/
theorem ent_one {w w' : World} {B B' : Nat} {I : Wd} {L : Lg} {S : Dsk} {v : Value} {n : Nat} {xs : List Value} (hW : Wl w B I L S) (h : w.ownsRow B' 40 2 v n xs) (ho : Out w w' (fun k => k = I.g)) : w'.ownsRow B' 40 2 v n xs :=
  owns_of_block h fun k hk => by
    obtain ⟨_, hlk, cur, hb⟩ := owns_block h hk
    refine ho.block k hlk ?_
    rintro rfl
    exact Bk.ne_ hb hW.box (by decide) rfl
theorem one_below {w w' : World} {B : Nat} {I : Wd} {L : Lg} {S : Dsk} (hW : Wl w B I L S) (ho : Out w w' (fun k => k = I.g)) (hB : B ≤ w.heap.size) : Below B w w' :=
  ho.below hB fun k hk => by subst hk; exact hW.bg

set_option maxRecDepth 100000 in
set_option maxHeartbeats 8000000 in
theorem round_any (ra : Option Addr) (rc mr : Nat) (s : Nat → ByteArray) (rounds : Nat) (kv : Value) (mk : Nat) (kb : Nat → Bool) (w : World) (hR : Sq w w.heap.size (.slice ra mr rc) mr (fun i => .string (s i))) (hRm : mr ≤ maxLen) (hRs : ∀ i, i < mr → (s i).size ≤ maxLen) (hro : rounds ≤ 60) (hK : Kb w w.heap.size kv mk kb) :
    Calls Try.prog 22 #[.slice ra mr rc, .int .i64 rounds, kv] w fun e w' => e = .returned (.bool true) ∧ Below w.heap.size w w' := by
  have CN := Lib.hid (fun w => new_good 128 w (by omega) (by omega))
  have RQ := Lib.hid hR; have KQ := Lib.hid hK
  have RS := Lib.hid hRs
  obtain ⟨ka, kc, rfl, -⟩ := hK
  have hmr : mr ≤ 9223372036854775807 := by unfold maxLen at hRm; omega
  clear hRm hRs hR
  go_enter Try.func22, Try.ntmps22
  go_wp2_with fail
  refine (CN.out _).mono ?_
  rintro e w2 ⟨I, rfl, hd, hb⟩
  have B2 := Lib.hid hb
  have CC := Lib.hid (create_good 128 0 128 hd (by omega) (by omega) (by omega) hb.size)
  have HS := Lib.hid (Nat.le_refl w.heap.size)
  clear hd hb CN
  obtain ⟨B, hBe⟩ : ∃ B, B = w.heap.size := ⟨_, rfl⟩
  rw [← hBe] at CC HS
  have HS := Lib.hid (show w.heap.size ≤ B from by omega)
  clear hBe
  unfold Ids.ptr at *
  as_aux_lemma =>
    go_wp2_with fail
    refine CC.out.mono ?_
    rintro e w3 ⟨g, p', rfl, hw, hb⟩
    have B3 := Lib.hid (B2.out.trans (hb.mono HS.out))
    have W3 := Lib.hid hw
    have P3 := Lib.hid (show Wq 128 0 128 54 ⟨#[]⟩ (Lg.new 0 128) (.start (blanks 128)) [] 0 from wq_new 128 0 128 (-1) (by omega) (by omega) (by omega) (by omega))
    have R3 := Lib.hid (show Run (.start (blanks 128)) from ⟨rfl, rfl⟩)
    have HB := Lib.hid (show B ≤ w3.heap.size from by have := hw.bg; have := hw.box.lt; dsimp only at *; omega)
    clear hw hb CC B2
    as_aux_lemma =>
      go_wp2_with fail
      go_loopw [11, 12, 13] (fun s11 s12 i wr => ∃ (k start : Nat) (J : Wd) (L : Lg) (S : Dsk) (al : List ByteArray) (pre : ByteArray), k ≤ rounds ∧ i = .int .i64 k ∧ s12 = .int .i64 start ∧ J.g = g ∧ J.d.g = I.g ∧ Wl wr B J L S ∧ Wq 128 0 128 start pre L S al 0 ∧ Run S ∧ wr.ownsRow B 40 2 s11 al.length (enL start al) ∧ 54 ≤ start ∧ L.fin ≤ 54 + 7000 * (k + 1) ∧ B ≤ wr.heap.size ∧ Below w.heap.size w wr) (fun _ _ i _ => rounds - (intOf i).toNat)
      case atStart => exact ⟨0, 54, ⟨g, I.with p', .slice none 0 0, .slice none 0 0⟩, _, _, [], _, Nat.zero_le _, rfl, rfl, rfl, rfl, W3.out, P3.out, R3.out, World.ownsRow_nil _ _ _ _, Nat.le_refl _, by show 54 ≤ _; omega, HB.out, B3.out⟩
      case round =>
        obtain ⟨k, start, J, L, S, al, pre, hk, rfl, rfl, hJ, hI, hW, hP, hR, hE, h54, hfi, hBw, hb⟩ := hrel
        have W := Lib.hid hW; have BB := Lib.hid hb; have HW := Lib.hid hBw; have P := Lib.hid hP; have R := Lib.hid hR; have EV := Lib.hid hE; have FB := Lib.hid hfi; have S54 := Lib.hid h54
        obtain ⟨g', d, dv, pv⟩ := J
        dsimp only at hJ hI
        subst hJ
        clear hW hb hBw hP hR hE h54 hfi W3 B3 HB P3 R3
        as_aux_lemma =>
          by_cases hlt : k < rounds
          · have HLT := Lib.hid hlt
            have CS := Lib.hid (span_any W.out)
            unfold Wd.ptr at CS
            dsimp only at CS
            obtain ⟨va, vc, hve⟩ := tx_slice EV.out
            subst hve
            go_wp2_with fail
            refine CS.out.mono ?_
            rintro e w4 ⟨rfl, n1, hw4⟩
            have X4 := Lib.hid (show Below wr.heap.size wr w4 by rw [hw4]; exact below_drewN (Below.refl _ _) n1)
            have W4 := Lib.hid (W.out.kept X4.out)
            have B4 := Lib.hid (below_then BB.out X4.out BB.out.size)
            have HW4 := Lib.hid (Nat.le_trans HW.out X4.out.size)
            clear hw4 CS X4 W BB HW EV
            have CFl := Lib.hid (flush_wq W4.out P.out 1099511627776 HW4.out)
            unfold Wd.ptr at CFl
            dsimp only at CFl
            as_aux_lemma =>
              go_wp2_with fail
              refine CFl.out.mono ?_
              rintro e w5 ⟨p5, L5, S5, er, rfl, hw5, -, hq5, -, hr5, hfi5, ho5⟩
              obtain ⟨rfl, hR5⟩ := hr5 R.out
              have hq5' := hq5 rfl (by have := FB.out; omega)
              have W5 := Lib.hid hw5
              have P5 := Lib.hid hq5'.1
              have R5 := Lib.hid hR5
              have FF := Lib.hid hq5'.2
              have FI := Lib.hid hfi5
              have B5 := Lib.hid (B4.out.trans ((df_below W4.out ho5 HW4.out).mono HS.out))
              have HW5 := Lib.hid (Nat.le_trans HW4.out ho5.size)
              have CCu := Lib.hid (cut_wq hw5 hq5'.1 al.length (Nat.le_refl _) L.fin (by rw [List.take_length, ← hfi5]; exact hq5'.1.fin) (by rw [hq5'.2, hfi5]; exact Nat.le_refl _) HW5.out)
              unfold Wd.ptr at CCu
              dsimp only at CCu
              clear hw5 hq5 hq5' hr5 hfi5 ho5 hR5 CFl W4 B4 HW4 P R
              as_aux_lemma =>
                go_wp2_with fail
                refine CCu.out.mono ?_
                rintro e w6 ⟨rfl, dv6, pv6, pre6, hw6, hq6, ho6⟩
                rw [List.drop_length] at hq6
                have W6 := Lib.hid hw6
                have P6 := Lib.hid (hq6.less (Nat.zero_le _))
                have B6 := Lib.hid (B5.out.trans ((one_below W5.out ho6 HW5.out).mono HS.out))
                have HW6 := Lib.hid (Nat.le_trans HW5.out ho6.size)
                have S6 := Lib.hid (show 54 ≤ L.fin from by have := P5.out.fin; have := FI.out; have := S54.out; omega)
                clear hw6 hq6 ho6 CCu W5 B5 HW5 P5 FF FI
                have FB6 := Lib.hid (show L.fin ≤ 54 + 7000 * (k + 1) from FB.out)
                generalize L.cut L.fin = L6 at *
                generalize L.fin = start6 at *
                clear FB S54
                as_aux_lemma =>
                  go_wp2_with fail
                  go_loopw [11, 56] (fun s11 i wr => ∃ (j : Nat) (dv pv : Value) (L : Lg) (al : List ByteArray), j ≤ mr ∧ i = .int .i64 j ∧ Wl wr B ⟨g', d.with p5, dv, pv⟩ L S5 ∧ Wq 128 0 128 start6 pre6 L S5 al 0 ∧ wr.ownsRow B 40 2 s11 al.length (enL start6 al) ∧ B ≤ wr.heap.size ∧ Below w.heap.size w wr) (fun _ i _ => mr - (intOf i).toNat)
                  case atStart => exact ⟨0, _, _, _, [], Nat.zero_le _, rfl, W6.out, P6.out, World.ownsRow_nil _ _ _ _, HW6.out, B6.out⟩
                  case round =>
                    obtain ⟨j, dv, pv, L, al, hj, rfl, hW, hP, hE, hBw, hb⟩ := hrel
                    have W := Lib.hid hW; have BB := Lib.hid hb; have HW := Lib.hid hBw; have P := Lib.hid hP; have EV := Lib.hid hE
                    have FI := Lib.hid hP.fin
                    have MO := Lib.hid (show total al ≤ 7000 from by have := hP.most; omega)
                    have LB := Lib.hid (show L.fin ≤ 54 + 7000 * (k + 2) from by have := hP.fin; have := hP.most; have := FB6.out; omega)
                    have LT := Lib.hid (len_total al)
                    clear hW hb hBw hP hE W6 P6 HW6 B6
                    as_aux_lemma =>
                      by_cases hjl : j < mr
                      · have HJL := Lib.hid hjl
                        obtain ⟨a', c', e', hq'⟩ := RQ.out
                        obtain ⟨rfl, rfl⟩ : ra = a' ∧ rc = c' := by simpa using e'
                        obtain ⟨b, off, hsa, hlb, hc⟩ := hq' (by omega)
                        subst hsa
                        have q0 : wr.cell? ⟨b, off + j, none⟩ = some (.string (s j)) := by
                          rw [BB.out.cell (p := ⟨b, off + j, none⟩) hlb]; exact hc j hjl
                        have RZ := Lib.hid (RS.out j hjl)
                        clear hc e' hq'
                        generalize s j = rec at *
                        have NE := Lib.hid (enL_snoc al start6 rec)
                        rw [← FI.out] at NE
                        have CAp := Lib.hid (append_wq W.out P.out rec HW.out RZ.out (by have := LB.out; have := HLT.out; omega))
                        unfold Wd.ptr at CAp
                        dsimp only at CAp
                        go_wp2_with fail
                        refine CAp.out.mono ?_
                        rintro e w6 ⟨dv, pv, ho, ⟨er, rfl, hne, hne', hw6⟩ | ⟨rfl, -, -, -, hfin, hw6, hq6⟩⟩
                        · have W6 := Lib.hid hw6
                          have B6 := Lib.hid (BB.out.trans ((app_below W.out ho HW.out).mono HS.out))
                          have HW6 := Lib.hid (Nat.le_trans HW.out ho.size)
                          have E6 := Lib.hid (ent_app W.out EV.out ho)
                          clear hw6 ho CAp W BB HW q0 EV
                          as_aux_lemma =>
                            go_wp2_with fail
                            go_roundw
                            case rel => exact ⟨j + 1, dv, pv, L, al, by have := HJL.out; omega, by go_num, W6.out, P.out, E6.out, HW6.out, B6.out⟩
                            case measure => have := HJL.out; simp [intOf]; omega
                        · have W6 := Lib.hid hw6
                          have P6 := Lib.hid hq6
                          have B6 := Lib.hid (BB.out.trans ((app_below W.out ho HW.out).mono HS.out))
                          have HW6 := Lib.hid (Nat.le_trans HW.out ho.size)
                          have E6 := Lib.hid (ent_app W.out EV.out ho)
                          clear hw6 ho CAp W BB HW q0 hq6 P EV hfin
                          generalize L.more rec = L2 at *
                          as_aux_lemma =>
                            obtain ⟨i3, hi3, hz0, hz1, hz2⟩ := info_parts Try.info40
                            have T0 := Lib.hid (Bk.new w6 40 #[.int .i64 L.fin, .string rec])
                            have WA := Lib.hid (W6.out.kept ((Below.refl _ _).alloc (Nat.le_refl _) (.cells #[.int .i64 L.fin, .string rec] 40)))
                            have EA := Lib.hid (World.ownsRow.alloc E6.out (.cells #[.int .i64 L.fin, .string rec] 40))
                            have HBA := Lib.hid (show B ≤ (w6.alloc (.cells #[.int .i64 L.fin, .string rec] 40)).heap.size from by have := HW6.out; simp; omega)
                            obtain ⟨la, lc, hle⟩ := tx_slice EA.out
                            subst hle
                            have ll : al.length ≤ 7000 := Nat.le_trans LT.out MO.out
                            go_wp2_with (at_builtin; refine wpList_append_own_at _ rfl _ _ 36 rfl B 40 i3 (.agg #[.int .i64 0, .string ⟨#[]⟩]) 2 24 Try.underlying36 hi3 hz0 hz1 hz2 rfl (by decide) (.slice la al.length lc) al.length (enL start6 al) rfl EA.out ⟨w6.heap.size, 0, none⟩ 1 1 [.int .i64 L.fin, .string rec] rfl rfl ?rc2 ?rc3 ?rc4 ?rc5 ?rc6 ?_)
                            case rc2 =>
                              intro j u hj
                              rw [Addr.add_lit, Nat.zero_add]
                              refine Eq.trans (T0.out.cell j) ?_
                              simpa using hj
                            case rc3 => simp [Value.oneCell']
                            case rc4 => unfold maxLen; omega
                            case rc5 => omega
                            case rc6 => exact HBA.out
                            intro ev2 w7 hown hgrow _ _
                            have hre : ∀ k, (Value.slice la al.length lc).ownBlock = some k → ∃ cur, Bk (w6.alloc (.cells #[.int .i64 L.fin, .string rec] 40)) k 40 cur := fun k hk => (owns_block EA.out hk).2.2
                            have W7 := Lib.hid (WA.out.egrown hgrow hre)
                            have E7 := Lib.hid (show w7.ownsRow B 40 2 ev2 (al ++ [rec]).length (enL start6 (al ++ [rec])) from by rw [NE.out, List.length_append]; exact hown)
                            have B7 := Lib.hid ((B6.out.alloc B6.out.size (.cells #[.int .i64 L.fin, .string rec] 40)).trans (((Below.refl _ _).grown hgrow HBA.out (fun k hk => (owns_block EA.out hk).1)).mono HS.out))
                            have HW7 := Lib.hid (Nat.le_trans HBA.out hgrow.size)
                            clear hown hgrow hre T0 WA EA HBA W6 E6 B6 HW6
                            as_aux_lemma =>
                              go_wp2_with fail
                              go_roundw
                              case rel => exact ⟨j + 1, dv, pv, L2, al ++ [rec], by have := HJL.out; omega, by go_num, W7.out, P6.out, E7.out, HW7.out, B7.out⟩
                              case measure => have := HJL.out; simp [intOf]; omega
                      · go_wp2_with fail
                        go_roundw
                        case rel => exact ⟨k + 1, start6, ⟨g', d.with p5, dv, pv⟩, L, S5, al, pre6, by have := HLT.out; omega, by go_num, rfl, rfl, hI, W.out, P.out, R5.out, EV.out, S6.out, LB.out, HW.out, BB.out⟩
                        case measure => have := HLT.out; simp [intOf]; omega
          · have CFl := Lib.hid (flush_wq W.out P.out 1099511627776 HW.out)
            unfold Wd.ptr at CFl
            dsimp only at CFl
            obtain ⟨va, vc, hve⟩ := tx_slice EV.out
            subst hve
            go_wp2_with fail
            refine CFl.out.mono ?_
            rintro e w5 ⟨p5, L5, S5, er, rfl, hw5, -, hq5, -, hr5, hfi5, ho5⟩
            obtain ⟨rfl, hR5⟩ := hr5 R.out
            have W5 := Lib.hid hw5
            have P5 := Lib.hid (hq5 rfl (by have := FB.out; omega)).1
            have E5 := Lib.hid (ent_df W.out EV.out ho5)
            have B5 := Lib.hid (BB.out.trans ((df_below W.out ho5 HW.out).mono HS.out))
            have HW5 := Lib.hid (Nat.le_trans HW.out ho5.size)
            have ST := Lib.hid (show 54 ≤ start ∧ start ≤ 1099511627776 from ⟨S54.out, by have := P.out.fin; have := FB.out; omega⟩)
            have ML := Lib.hid (show al.length ≤ 9223372036854775807 from by have := P.out.most; have := len_total al; omega)
            clear hw5 hq5 hr5 hfi5 ho5 hR5 CFl W P EV BB HW R hlt FB S54
            as_aux_lemma =>
              have CCr := Lib.hid (crash_any W5.out.dsk (.slice ka mk kc) mk kb ((KQ.out.kept B5.out (Nat.le_refl _)).mono HS.out))
              unfold Ids.ptr Ids.with at CCr
              dsimp only at CCr
              rw [hI] at CCr
              go_wp2_with fail
              refine CCr.out.mono ?_
              rintro e w10 ⟨J3, rfl, -, hd6, ho6, hp6⟩
              rw [← hI] at ho6
              have D6 := Lib.hid hd6
              have B6 := Lib.hid (B5.out.trans ((foot_below W5.out.dsk ho6 HW5.out).mono HS.out))
              have HC6 := Lib.hid ho6.size
              have HBD := Lib.hid (Nat.le_trans HS.out HW5.out)
              have E6 := Lib.hid (ent_foot W5.out.dsk E5.out ho6)
              have EL := Lib.hid (own_lt E5.out)
              generalize w5.heap.size = Bd at *
              clear hd6 ho6 CCr W5 HW5 B5 KQ E5
              have CO := Lib.hid (open_wq D6.out P5.out mk kb rfl ST.out.1 ST.out.2 HC6.out)
              unfold Ids.ptr at CO
              as_aux_lemma =>
                go_wp2_with fail
                refine CO.out.mono ?_
                rintro e w11 ⟨k, p11, g3, ea, ec, dv2, pv2, L11, S11, hk1, hk2, rfl, hE, -, -, -, hb⟩
                obtain rfl : k = al.length := by omega
                rw [List.take_length] at hE
                have VA := Ev.of_owns hE
                have VB := Ev.of_owns (ent_under E6.out EL.out hb)
                have CP := Lib.hid (sameEv_any w11 (.slice ea al.length ec) (.slice va al.length vc) al.length al.length _ _ _ _ VA VB ML.out ML.out True ⟨fun _ => ⟨rfl, fun i hi => ⟨rfl, rfl⟩⟩, fun _ => trivial⟩)
                have B11 := Lib.hid (B6.out.trans (hb.mono HBD.out))
                clear hE hb CO D6 B6 E6 HC6 VA VB
                as_aux_lemma =>
                  go_wp2_with fail
                  refine CP.out.mono ?_
                  rintro e w12 ⟨⟨rfl, -⟩ | ⟨-, hn⟩, hb12⟩
                  · have B12 := Lib.hid (below_then B11.out hb12 B11.out.size)
                    clear hb12 CP B11
                    go_wp2_with fail
                    go_ret
                    exact ⟨rfl, B12.out⟩
                  · exact absurd trivial hn
end Go.Proofs.Ytplcddcdhnjfeaa
