/- The walk of WalPrefix. -/
import Derived.Test.YtplcddcdhnjfeaaWalEnt
set_option linter.unusedVariables false
set_option linter.unusedSimpArgs false
namespace Go.Proofs.Ytplcddcdhnjfeaa
open Go.RowKit

set_option maxRecDepth 100000 in
set_option maxHeartbeats 4000000 in
theorem walk_WalPrefix (v : Value) (q : Crd) (w : World) (hq : IsCrd w v q) :
    Calls Try.prog 3 #[v] w fun e w' => e = .returned (.bool true) ∧ Below w.heap.size w w' := by
  have CA := Lib.hid (fun w => awake_any w)
  have CN := Lib.hid (fun w => new_good 128 w (by omega) (by omega))
  obtain ⟨rv, mr, s, fv, mf, fl, fuel, kv, mk, kb, more, av, ma, ab⟩ := q
  obtain ⟨rfl, hR, hRm, hRs, hF, hFm, hK, hA, hKm, hfu, hmo⟩ := hq
  dsimp only at hR hRm hRs hF hFm hK hA hKm hfu hmo ⊢
  have RQ := Lib.hid hR; have FQ := Lib.hid hF; have KQ := Lib.hid hK; have AQ := Lib.hid hA
  have RS := Lib.hid hRs
  obtain ⟨ra, rc, rfl, -⟩ := hR
  obtain ⟨fa, fc, rfl, -⟩ := hF
  obtain ⟨ka, kc, rfl, -⟩ := hK
  obtain ⟨aa, ac, rfl, -⟩ := hA
  have hmr : mr ≤ 9223372036854775807 := by unfold maxLen at hRm; omega
  have hmf : mf ≤ 9223372036854775807 := by unfold maxLen at hFm; omega
  have FU := Lib.hid hfu; have MO := Lib.hid hmo
  clear hRm hFm hKm hRs hfu hmo
  have B0 := Lib.hid ((Below.refl w.heap.size w).alloc (Nat.le_refl _) (.cells (Crd.cs ⟨.slice ra mr rc, mr, s, .slice fa mf fc, mf, fl, fuel, .slice ka mk kc, mk, kb, more, .slice aa ma ac, ma, ab⟩) 26))
  unfold Crd.cs at B0 ⊢
  dsimp only at B0 ⊢
  go_enter Try.func3, Try.ntmps3
  go_wp2_with fail
  go_region
  go_wp2_with fail
  refine (CA.out _).mono ?_
  rintro e w1 ⟨rfl, hb⟩
  have B1 := Lib.hid (B0.out.drew.trans (hb.mono B0.out.size))
  clear hb CA B0
  as_aux_lemma =>
    go_wp2_with fail
    refine (CN.out _).mono ?_
    rintro e w2 ⟨I, rfl, hd, hb⟩
    have B2 := Lib.hid (below_then B1.out hb B1.out.size)
    have CC := Lib.hid (create_good 128 0 128 hd (by omega) (by omega) (by omega) hb.size)
    have HS := Lib.hid B1.out.size
    clear hd hb CN B1
    as_aux_lemma =>
      generalize w1.heap.size = B at *
      unfold Ids.ptr at *
      go_wp2_with fail
      refine CC.out.mono ?_
      rintro e w3 ⟨g, p', rfl, hw, hb⟩
      have B3 := Lib.hid (B2.out.trans (hb.mono HS.out))
      have W3 := Lib.hid hw
      have CF := Lib.hid (fuel_any hw.dsk (max fuel 0) (by have := FU.out.2; omega))
      have HB := Lib.hid (show B ≤ w3.heap.size from by have := hw.bg; have := hw.box.lt; dsimp only at *; omega)
      clear hw hb CC B2
      as_aux_lemma =>
        unfold Ids.ptr Ids.with at CF
        dsimp only at CF
        go_wp2_with fail
        refine CF.out.mono ?_
        rintro e w4 ⟨rfl, hd, ho⟩
        have hf0 : (if max fuel 0 < 0 then -1 else max fuel 0) = max fuel 0 := if_neg (by omega)
        rw [hf0] at hd
        have W4 := Lib.hid (W3.out.disk (p' := p') hd ho)
        have B4 := Lib.hid (show Below w.heap.size w w4 from B3.out.trans ((df_below W3.out (df_one W3.out.dsk ho) HB.out).mono HS.out))
        have HB4 := Lib.hid (Nat.le_trans HB.out ho.size)
        have P4 := Lib.hid (wp_new (max fuel 0))
        clear CF hd ho hf0 W3 B3 HB
        as_aux_lemma =>
          go_wp2_with fail
          go_loopw [13, 14, 58] (fun lv fv i wr => ∃ (j : Nat) (J : Wd) (L : Lg) (S : Dsk) (all : List ByteArray) (f : Nat), j ≤ mr ∧ i = .int .i64 j ∧ fv = .int .i64 f ∧ J.g = g ∧ J.d.g = I.g ∧ Wl wr B J L S ∧ Wp L S all f ∧ wr.ownsRow B 40 2 lv all.length (enL 54 all) ∧ B ≤ wr.heap.size ∧ Below w.heap.size w wr) (fun _ _ i _ => mr - (intOf i).toNat)
          case atStart => exact ⟨0, _, _, _, [], 0, Nat.zero_le _, rfl, rfl, rfl, rfl, W4.out, P4.out, World.ownsRow_nil _ _ _ _, HB4.out, B4.out⟩
          case round =>
            obtain ⟨j, J, L, S, all, f, hj, rfl, rfl, hJ, hI, hW, hP, hE, hBw, hb⟩ := hrel
            have W := Lib.hid hW; have BB := Lib.hid hb; have HW := Lib.hid hBw; have P := Lib.hid hP; have EV := Lib.hid hE
            clear hW hb hBw hP hE W4 B4 HB4 P4
            by_cases hlt : j < mr
            · have HLT := Lib.hid hlt
              obtain ⟨a', c', e', hq'⟩ := RQ.out
              obtain ⟨rfl, rfl⟩ : ra = a' ∧ rc = c' := by simpa using e'
              obtain ⟨b, off, hsa, hlb, hc⟩ := hq' (by omega)
              subst hsa
              have q0 : wr.cell? ⟨b, off + j, none⟩ = some (.string (s j)) := by
                rw [BB.out.cell (p := ⟨b, off + j, none⟩) hlb]; exact hc j hlt
              have RZ := Lib.hid (RS.out j hlt)
              have rs := RS.out j hlt
              unfold maxLen at rs
              clear hc e' hq'
              generalize s j = rec at *
              have CAp := Lib.hid (append_any W.out rec HW.out RZ.out (by have := P.out.fin; have := P.out.most; omega))
              unfold AppPost Wd.ptr at CAp
              rw [hJ] at CAp
              by_cases hA : rec.size = 0 ∨ 65535 < rec.size ∨ L.room < rec.size + 2
              · as_aux_lemma =>
                  obtain ⟨er, hE, hne⟩ : ∃ er, L.append rec = (L, 0, er) ∧ er ≠ 0 := by
                    unfold Lg.append
                    by_cases h0 : rec.size = 0
                    · exact ⟨1, by rw [if_pos h0], by decide⟩
                    by_cases h1 : 65535 < rec.size
                    · exact ⟨2, by rw [if_neg h0, if_pos h1], by decide⟩
                    · exact ⟨70, by rw [if_neg h0, if_neg h1, if_pos (by omega)], by decide⟩
                  rw [hE] at CAp
                  have HA := Lib.hid hA
                  clear hE hA
                  go_wp2_with fail
                  refine CAp.out.mono ?_
                  rintro e w6 ⟨rfl, dv, pv, hw6, ho, -⟩
                  have W6 := Lib.hid hw6
                  have B6 := Lib.hid (BB.out.trans ((app_below W.out ho HW.out).mono HS.out))
                  have HW6 := Lib.hid (Nat.le_trans HW.out ho.size)
                  have E6 := Lib.hid (show w6.ownsRow B 40 2 _ all.length (enL 54 all) from owns_of_block EV.out fun k hk => by
                    obtain ⟨_, hlk, cur, hb⟩ := owns_block EV.out hk
                    refine ho.block k hlk ?_
                    rintro (rfl | h | h)
                    · exact Bk.ne_ hb W.out.box (by decide) rfl
                    · obtain ⟨_, _, c, hc⟩ := owns_block W.out.plc h
                      exact Bk.ne_ hb hc (by decide) rfl
                    · obtain ⟨_, _, c, hc⟩ := owns_block W.out.dat h
                      exact Bk.ne_ hb hc (by decide) rfl)
                  clear hw6 ho CAp W BB HW q0
                  go_wp2_with fail
                  go_roundw
                  case rel => exact ⟨j + 1, ⟨g, J.d, dv, pv⟩, L, S, all, f, by have := HLT.out; omega, by go_num, rfl, rfl, hI, W6.out, P.out, E6.out, HW6.out, B6.out⟩
                  case measure => have := HLT.out; simp [intOf]; omega
              · as_aux_lemma =>
                  have h0 : ¬ rec.size = 0 := fun h => hA (.inl h)
                  have h1 : ¬ 65535 < rec.size := fun h => hA (.inr (.inl h))
                  have h2 : ¬ L.room < rec.size + 2 := fun h => hA (.inr (.inr h))
                  have hE : L.append rec = (L.more rec, L.fin, 0) := by unfold Lg.append; rw [if_neg h0, if_neg h1, if_neg h2]
                  rw [hE] at CAp
                  have PM := Lib.hid (P.out.more rec (by omega) (by omega) (by omega))
                  have FI := Lib.hid P.out.fin
                  have MO := Lib.hid P.out.most
                  have LT := Lib.hid (len_total all)
                  have NE := Lib.hid (enL_snoc all 54 rec)
                  rw [← FI.out] at NE
                  clear hE hA h0 h1 h2 P
                  generalize L.more rec = L2 at *
                  go_wp2_with fail
                  refine CAp.out.mono ?_
                  rintro e w6 ⟨rfl, dv, pv, hw6, ho, -⟩
                  have W6 := Lib.hid hw6
                  have B6 := Lib.hid (BB.out.trans ((app_below W.out ho HW.out).mono HS.out))
                  have HW6 := Lib.hid (Nat.le_trans HW.out ho.size)
                  have E6 := Lib.hid (ent_app W.out EV.out ho)
                  clear hw6 ho CAp W BB HW q0 EV
                  obtain ⟨i3, hi3, hz0, hz1, hz2⟩ := info_parts Try.info40
                  have T0 := Lib.hid (Bk.new w6 40 #[.int .i64 L.fin, .string rec])
                  have WA := Lib.hid (W6.out.kept ((Below.refl _ _).alloc (Nat.le_refl _) (.cells #[.int .i64 L.fin, .string rec] 40)))
                  have EA := Lib.hid (World.ownsRow.alloc E6.out (.cells #[.int .i64 L.fin, .string rec] 40))
                  have HBA := Lib.hid (show B ≤ (w6.alloc (.cells #[.int .i64 L.fin, .string rec] 40)).heap.size from by have := HW6.out; simp; omega)
                  obtain ⟨la, lc, hle⟩ := tx_slice EA.out
                  subst hle
                  have ll : all.length ≤ 6912 := Nat.le_trans LT.out MO.out
                  go_wp2_with (at_builtin; refine wpList_append_own_at _ rfl _ _ 36 rfl B 40 i3 (.agg #[.int .i64 0, .string ⟨#[]⟩]) 2 24 Try.underlying36 hi3 hz0 hz1 hz2 rfl (by decide) (.slice la all.length lc) all.length (enL 54 all) rfl EA.out ⟨w6.heap.size, 0, none⟩ 1 1 [.int .i64 L.fin, .string rec] rfl rfl ?rc2 ?rc3 ?rc4 ?rc5 ?rc6 ?_)
                  case rc2 =>
                    intro j u hj
                    rw [Addr.add_lit, Nat.zero_add]
                    refine Eq.trans (T0.out.cell j) ?_
                    simpa using hj
                  case rc3 => simp [Value.oneCell']
                  case rc4 => unfold maxLen; omega
                  case rc5 => omega
                  case rc6 => exact HBA.out
                  intro ev2 w7 hown hgrow _ _
                  have hre : ∀ k, (Value.slice la all.length lc).ownBlock = some k → ∃ cur, Bk (w6.alloc (.cells #[.int .i64 L.fin, .string rec] 40)) k 40 cur := fun k hk => (owns_block EA.out hk).2.2
                  have W7 := Lib.hid (WA.out.egrown hgrow hre)
                  have E7 := Lib.hid (show w7.ownsRow B 40 2 ev2 (all ++ [rec]).length (enL 54 (all ++ [rec])) from by rw [NE.out, List.length_append]; exact hown)
                  have B7 := Lib.hid ((B6.out.alloc B6.out.size (.cells #[.int .i64 L.fin, .string rec] 40)).trans (((Below.refl _ _).grown hgrow HBA.out (fun k hk => (owns_block EA.out hk).1)).mono HS.out))
                  have HW7 := Lib.hid (Nat.le_trans HBA.out hgrow.size)
                  clear hown hgrow hre T0 WA EA HBA W6 E6 B6 HW6
                  have N2 := Lib.hid (show (all ++ [rec]).length = all.length + 1 by simp)
                  generalize hAL : all ++ [rec] = al2 at *
                  obtain ⟨ea, ec, hee⟩ := tx_slice E7.out
                  subst hee
                  rw [N2.out] at E7
                  go_wp2_with fail
                  go_loopw [14, 79] (fun fv i wx => ∃ (z : Nat) (p' : Value) (L3 : Lg) (S3 : Dsk) (f' : Nat), z ≤ mf ∧ i = .int .i64 z ∧ fv = .int .i64 f' ∧ Wl wx B ⟨g, J.d.with p', dv, pv⟩ L3 S3 ∧ Wp L3 S3 al2 f' ∧ wx.ownsRow B 40 2 (.slice ea (all.length + 1) ec) (all.length + 1) (enL 54 al2) ∧ B ≤ wx.heap.size ∧ Below w.heap.size w wx) (fun _ i _ => mf - (intOf i).toNat)
                  case atStart => exact ⟨0, J.d.p, L2, S, f, Nat.zero_le _, rfl, rfl, W7.out, PM.out, E7.out, HW7.out, B7.out⟩
                  case round =>
                    obtain ⟨z, p3, L3, S3, f3, hz, rfl, rfl, hW, hP, hE, hBw, hb⟩ := hrel
                    have W := Lib.hid hW; have BB := Lib.hid hb; have HW := Lib.hid hBw; have P := Lib.hid hP; have EV := Lib.hid hE
                    clear hW hb hBw hP hE W7 B7 HW7 PM E7
                    by_cases hzl : z < mf
                    · have HZL := Lib.hid hzl
                      obtain ⟨a', c', e', hq'⟩ := FQ.out
                      obtain ⟨rfl, rfl⟩ : fa = a' ∧ fc = c' := by simpa using e'
                      obtain ⟨b2, off2, hsa2, hlb2, hc2⟩ := hq' (by omega)
                      subst hsa2
                      have q0 : wr.cell? ⟨b2, off2 + z, none⟩ = some (.int .i64 (fl z)) := by
                        rw [BB.out.cell (p := ⟨b2, off2 + z, none⟩) hlb2]; exact hc2 z hzl
                      clear hc2 e' hq'
                      generalize fl z = fz at *
                      by_cases hk : fz = (j : Int)
                      · have hk0 : (fz == (j : Int)) = true := by simp [hk]
                        have CFl := Lib.hid (flush_any W.out ((L.fin : Nat) : Int) HW.out (by have := P.out.qt.few; omega))
                        unfold FlushPost Wd.ptr at CFl
                        dsimp only at CFl
                        have FL := Lib.hid (fun hok => Wp.flush_last (f := f3) (by rw [hAL]; exact P.out) L.fin FI.out hok)
                        rw [hAL] at FL
                        clear hk
                        generalize L3.flush S3 ((L.fin : Nat) : Int) = R at *
                        obtain ⟨L4, S4, e4⟩ := R
                        dsimp only at CFl FL
                        go_wp2_with fail
                        refine CFl.out.mono ?_
                        rintro e w8 ⟨rfl, p4, hw8, ho8⟩
                        have W8 := Lib.hid (show Wl w8 B ⟨g, J.d.with p4, dv, pv⟩ L4 S4 from hw8)
                        have P8 := Lib.hid (FL.out hw8.ok)
                        have B8 := Lib.hid (BB.out.trans ((df_below W.out ho8 HW.out).mono HS.out))
                        have HW8 := Lib.hid (Nat.le_trans HW.out ho8.size)
                        have E8 := Lib.hid (ent_df W.out EV.out ho8)
                        clear hw8 ho8 CFl FL W P BB HW EV q0
                        by_cases he4 : e4 = 0
                        · rw [if_pos he4] at P8
                          have he4' : (e4 == 0) = true := by simp [he4]
                          rw [N2.out] at P8
                          clear he4
                          go_wp2_with fail
                          go_roundw
                          case rel => exact ⟨z + 1, p4, L4, S4, all.length + 1, by have := HZL.out; omega, by go_num, by have := N2.out; simp; omega, W8.out, P8.out, E8.out, HW8.out, B8.out⟩
                          case measure => have := HZL.out; simp [intOf]; omega
                        · rw [if_neg he4] at P8
                          have he4' : (e4 == 0) = false := by simp [he4]
                          clear he4
                          go_wp2_with fail
                          go_roundw
                          case rel => exact ⟨z + 1, p4, L4, S4, f3, by have := HZL.out; omega, by go_num, rfl, W8.out, P8.out, E8.out, HW8.out, B8.out⟩
                          case measure => have := HZL.out; simp [intOf]; omega
                      · have hk0 : (fz == (j : Int)) = false := by simp [hk]
                        clear hk
                        go_wp2_with fail
                        go_roundw
                        case rel => exact ⟨z + 1, p3, L3, S3, f3, by have := HZL.out; omega, by go_num, rfl, W.out, P.out, EV.out, HW.out, BB.out⟩
                        case measure => have := HZL.out; simp [intOf]; omega
                    · go_wp2_with fail
                      go_roundw
                      case rel => exact ⟨j + 1, ⟨g, J.d.with p3, dv, pv⟩, L3, S3, al2, f3, by have := HLT.out; omega, by go_num, rfl, rfl, hI, W.out, P.out, by rw [N2.out]; exact EV.out, HW.out, BB.out⟩
                      case measure => have := HLT.out; simp [intOf]; omega
            · -- behind the loop
              obtain ⟨la, lc, hle⟩ := tx_slice EV.out
              subst hle
              have QT := Lib.hid P.out.qt
              have CC := Lib.hid (crash_any W.out.dsk (.slice ka mk kc) mk kb ((KQ.out.kept BB.out (Nat.le_refl _)).mono HS.out))
              have HI := Lib.hid hI
              unfold Ids.ptr at CC
              rw [hI] at CC
              have TF := Lib.hid (len_total all)
              have MO2 := Lib.hid P.out.most
              have FLE := Lib.hid P.out.fle
              go_wp2_with fail
              refine CC.out.mono ?_
              rintro e w6 ⟨J1, rfl, -, hd6, ho6, hp6⟩
              have D6 := Lib.hid hd6
              have E6 := Lib.hid (ent_foot W.out.dsk EV.out ho6)
              have EL := Lib.hid (own_lt EV.out)
              have B6 := Lib.hid (BB.out.trans ((foot_below W.out.dsk ho6 HW.out).mono HS.out))
              have HC6 := Lib.hid ho6.size
              have HBC := Lib.hid HW.out
              generalize wr.heap.size = Bc at *
              clear hd6 ho6 CC EV W HW BB
              as_aux_lemma =>
                have CF := Lib.hid (fuel_any D6.out (max more 0) (by have := MO.out.2; omega))
                unfold Ids.ptr at CF
                go_wp2_with fail
                refine CF.out.mono ?_
                rintro e w7 ⟨rfl, hd7, ho7⟩
                have hf0 : (if max more 0 < 0 then -1 else max more 0) = max more 0 := if_neg (by omega)
                rw [hf0] at hd7
                have X7 := Lib.hid (foot_below D6.out ho7 HC6.out)
                have D7 := Lib.hid hd7
                have E7 := Lib.hid (ent_under E6.out EL.out X7.out)
                have B7 := Lib.hid (B6.out.trans (X7.out.mono (Nat.le_trans HS.out HBC.out)))
                have HC7 := Lib.hid (Nat.le_trans HC6.out ho7.size)
                clear hd7 ho7 hf0 CF X7 D6 E6 B6 HC6
                as_aux_lemma =>
                  obtain ⟨k, k1, k2, k3, k4, k5, k6, k7⟩ := wp_open P.out mk kb (max more 0) _ rfl
                  have K7 := Lib.hid k7
                  have K1 := Lib.hid k1; have K2 := Lib.hid k2; have K6 := Lib.hid k6; have K5 := Lib.hid k5
                  have CO := Lib.hid (open_good D7.out 0 128 54 rfl (by omega) (by omega) (by show 0 + 128 ≤ (S.crash mk kb).firm.length; rw [crash_len, P.out.qt.len]; omega) (by omega) (by omega) HC7.out (by show 0 ≤ _; omega))
                  rw [k3] at CO
                  unfold OpenPost Ids.ptr at CO
                  clear k1 k2 k3 k4 k5 k6 k7
                  generalize { S.crash mk kb with fuel := max more 0 } = C1 at *
                  generalize (opened (Lg.read 0 128 54 C1)).wipeFrom 128 0 C1 = P1 at *
                  generalize opened (Lg.read 0 128 54 C1) = L1 at *
                  have A7 := Lib.hid (Ev.of_owns E7.out)
                  go_wp2_with fail
                  refine CO.out.mono ?_
                  rintro e w8 ⟨p8, hb8, hcase⟩
                  have E8 := Lib.hid (ent_under E7.out EL.out hb8)
                  have B8 := Lib.hid (B7.out.trans (hb8.mono (Nat.le_trans HS.out HBC.out)))
                  have HC8 := Lib.hid (Nat.le_trans HC7.out hb8.size)
                  obtain ⟨S1, e1⟩ := P1
                  dsimp only at hcase
                  rcases hcase with ⟨he1, g1, ov, dv1, pv1, rfl, hO, hW8⟩ | ⟨he1, rfl, hD8⟩
                  · subst he1
                    obtain ⟨oa, oc, hoe⟩ := tx_slice hO
                    subst hoe
                    have lk : (all.take k).length = k := by rw [List.length_take]; have := K2.out; omega
                    rw [lk] at hO
                    have VO8 := Lib.hid (show Ev w8 w8.heap.size (.slice oa k oc) k _ _ from by have := Ev.of_owns (l := all.take k) (by rw [lk]; exact hO); rw [lk] at this; exact this)
                    have O8 := Lib.hid hO
                    have D8 := Lib.hid hW8.dsk
                    have VE8 := Lib.hid (Ev.of_owns E8.out)
                    have CP := Lib.hid (prefix_any w8 (.slice la all.length lc) (.slice oa k oc) all.length k _ _ _ _ VE8.out VO8.out (by have := TF.out; have := MO2.out; omega) (f : Int) (by have := K1.out; omega) K2.out (fun i hi => ⟨(plAt_take all 54 k i hi).symm, (rcAt_take all k i hi).symm⟩))
                    clear hW8 hO CO hb8 D7 E7 B7 HC7 A7 VE8 VO8
                    go_wp2_with fail
                    refine CP.out.mono ?_
                    rintro e w9 ⟨rfl, hb9⟩
                    have D9 := Lib.hid (show Dk w9 Bc (J1.with p8) S1 from D8.out.kept hb9)
                    have E9 := Lib.hid (ent_under E8.out (own_lt E8.out) hb9)
                    have O9 := Lib.hid (ent_under O8.out (own_lt O8.out) hb9)
                    have OL9 := Lib.hid (fun k hk => Nat.lt_of_lt_of_le (own_lt O8.out k hk) hb9.size)
                    have HC9 := Lib.hid (Nat.le_trans HC8.out hb9.size)
                    have B9 := Lib.hid (below_then B8.out hb9 B8.out.size)
                    clear hb9 CP D8 E8 O8 B8 HC8
                    as_aux_lemma =>
                      have CC2 := Lib.hid (crash_any D9.out (.slice aa ma ac) ma ab ((AQ.out.kept B9.out (Nat.le_refl _)).mono (Nat.le_trans HS.out HBC.out)))
                      unfold Ids.ptr Ids.with at CC2
                      dsimp only at CC2
                      have EL9 := Lib.hid (fun k hk => Nat.lt_of_lt_of_le (EL.out k hk) HC9.out)
        
                      obtain ⟨k2, j1, j2, j3, j4, j5⟩ := K7.out ma ab _ rfl
                      have J1' := Lib.hid j1; have J2' := Lib.hid j2; have J4 := Lib.hid j4
                      have SL := Lib.hid (show (S1.crash ma ab).firm.length = 128 from by rw [crash_len]; exact K5.out)
                      go_wp2_with fail
                      refine CC2.out.mono ?_
                      rintro e w10 ⟨JJ, rfl, -, hd10, ho10, hp10⟩
                      have D10 := Lib.hid hd10
                      have E10 := Lib.hid (ent_foot D9.out E9.out ho10)
                      have O10 := Lib.hid (ent_foot D9.out O9.out ho10)
                      have B10 := Lib.hid (B9.out.trans ((foot_below D9.out ho10 HC9.out).mono (Nat.le_trans HS.out HBC.out)))
                      have HD := Lib.hid (Nat.le_trans (Nat.le_trans HS.out HBC.out) HC9.out)
                      have HC10 := Lib.hid ho10.size
                      generalize w9.heap.size = Bd at *
                      clear hd10 ho10 CC2 E9 B9 D9 O9
                      as_aux_lemma =>
                        have CO2 := Lib.hid (open_good D10.out 0 128 54 rfl (by omega) (by omega) (by rw [SL.out]; omega) (by omega) (by omega) HC10.out (by show 0 ≤ _; omega))
                        rw [j3] at CO2
                        unfold OpenPost Ids.ptr at CO2
                        clear j1 j2 j3 j4
                        as_aux_lemma =>
                          generalize S1.crash ma ab = C2 at *
                          generalize opened (Lg.read 0 128 54 C2) = L2 at *
                          generalize L2.wipeFrom 128 0 C2 = P2 at *
                          obtain ⟨S2, e2⟩ := P2
                          dsimp only at j5
                          subst j5
                          go_wp2_with fail
                          refine CO2.out.mono ?_
                          rintro e w11 ⟨p11, hb11, hcase2⟩
                          obtain ⟨g2, tv, dv2, pv2, rfl, hT, -⟩ : ∃ g ev dv pv, e = .returned (.tuple #[.pointer (some ⟨g, 0, none⟩), ev, .int .i64 0]) ∧ w11.ownsRow Bd 40 2 ev (all.take k2).length (enL 54 (all.take k2)) ∧ True := by
                            rcases hcase2 with ⟨-, g, ev, dv, pv, rfl, h, -⟩ | ⟨h, -⟩
                            · exact ⟨g, ev, dv, pv, rfl, h, trivial⟩
                            · exact absurd rfl h
                          obtain ⟨ta, tc, hte⟩ := tx_slice hT
                          subst hte
                          have lk2 : (all.take k2).length = k2 := by rw [List.length_take]; have := J2'.out; omega
                          rw [lk2] at hT
                          have VT := Lib.hid (show Ev w11 w11.heap.size (.slice ta k2 tc) k2 _ _ from by have := Ev.of_owns (l := all.take k2) (by rw [lk2]; exact hT); rw [lk2] at this; exact this)
                          have VE := Lib.hid (Ev.of_owns (ent_under E10.out EL9.out hb11))
                          have VO := Lib.hid (show Ev w11 w11.heap.size (.slice oa k oc) k _ _ from by have := Ev.of_owns (l := all.take k) (by rw [lk]; exact ent_under O10.out OL9.out hb11); rw [lk] at this; exact this)
                          obtain rfl : k2 = k := J4.out (by first | exact rfl | trivial)
                          have B11 := Lib.hid (B10.out.trans (hb11.mono HD.out))
                          have CP2 := Lib.hid (prefix_any w11 (.slice la all.length lc) (.slice ta k2 tc) all.length k2 _ _ _ _ VE.out VT.out (by have := TF.out; have := MO2.out; omega) (f : Int) (by have := J1'.out; omega) J2'.out (fun i hi => ⟨(plAt_take all 54 k2 i hi).symm, (rcAt_take all k2 i hi).symm⟩))
                          clear hcase2 CO2 hb11 hT D10 E10 B10
                          as_aux_lemma =>
                            clear EL9 OL9
                            go_wp2_with fail
                            refine CP2.out.mono ?_
                            rintro e w12 ⟨rfl, hb12⟩
                            have VO12 := Lib.hid (VO.out.kept hb12 (Nat.le_refl _)); have VT12 := Lib.hid (VT.out.kept hb12 (Nat.le_refl _))
                            have CS := Lib.hid (sameEv_any w12 (.slice oa k2 oc) (.slice ta k2 tc) k2 k2 _ _ _ _ (VO12.out.mono hb12.size) (VT12.out.mono hb12.size) (by have := TF.out; have := MO2.out; have := J2'.out; omega) (by have := TF.out; have := MO2.out; have := J2'.out; omega) True ⟨fun _ => ⟨rfl, fun i hi => ⟨rfl, rfl⟩⟩, fun _ => trivial⟩)
                            have B12 := Lib.hid (below_then B11.out hb12 B11.out.size)
                            clear hb12 CP2 VO VT VE VO12 VT12 B11
                            as_aux_lemma =>
                              go_wp2_with fail
                              refine CS.out.mono ?_
                              rintro e w13 ⟨⟨rfl, -⟩ | ⟨-, hn⟩, hb13⟩
                              · have B13 := Lib.hid (below_then B12.out hb13 B12.out.size)
                                clear hb13 CS B12
                                go_wp2_with fail
                                go_ret
                                exact ⟨rfl, B13.out⟩
                              · exact absurd trivial hn

                  · have hne1 : (e1 != 0) = true := by simp [he1]
                    have hne1' : (e1 == 0) = false := by simp [he1]
                    obtain ⟨w9, hw9⟩ : ∃ w9, w9 = w8 := ⟨_, rfl⟩
                    rw [← hw9] at hD8 E8 HC8 B8 ⊢
                    clear hw9
                    have D9 := Lib.hid (show Dk w9 Bc (J1.with p8) S1 from hD8)
                    have E9 := Lib.hid E8.out
                    have HC9 := Lib.hid HC8.out
                    have B9 := Lib.hid B8.out
                    clear hD8 E8 B8 HC8 he1 hb8 CO D7 E7 B7 HC7 A7
                    as_aux_lemma =>
                      go_wp2_with fail
                      have CC2 := Lib.hid (crash_any D9.out (.slice aa ma ac) ma ab ((AQ.out.kept B9.out (Nat.le_refl _)).mono (Nat.le_trans HS.out HBC.out)))
                      unfold Ids.ptr Ids.with at CC2
                      dsimp only at CC2
                      have EL9 := Lib.hid (fun k hk => Nat.lt_of_lt_of_le (EL.out k hk) HC9.out)
        
                      obtain ⟨k2, j1, j2, j3, j4, j5⟩ := K7.out ma ab _ rfl
                      have J1' := Lib.hid j1; have J2' := Lib.hid j2; have J4 := Lib.hid j4
                      have SL := Lib.hid (show (S1.crash ma ab).firm.length = 128 from by rw [crash_len]; exact K5.out)
                      go_wp2_with fail
                      refine CC2.out.mono ?_
                      rintro e w10 ⟨JJ, rfl, -, hd10, ho10, hp10⟩
                      have D10 := Lib.hid hd10
                      have E10 := Lib.hid (ent_foot D9.out E9.out ho10)
        
                      have B10 := Lib.hid (B9.out.trans ((foot_below D9.out ho10 HC9.out).mono (Nat.le_trans HS.out HBC.out)))
                      have HD := Lib.hid (Nat.le_trans (Nat.le_trans HS.out HBC.out) HC9.out)
                      have HC10 := Lib.hid ho10.size
                      generalize w9.heap.size = Bd at *
                      clear hd10 ho10 CC2 E9 B9 D9 
                      as_aux_lemma =>
                        have CO2 := Lib.hid (open_good D10.out 0 128 54 rfl (by omega) (by omega) (by rw [SL.out]; omega) (by omega) (by omega) HC10.out (by show 0 ≤ _; omega))
                        rw [j3] at CO2
                        unfold OpenPost Ids.ptr at CO2
                        clear j1 j2 j3 j4
                        as_aux_lemma =>
                          generalize S1.crash ma ab = C2 at *
                          generalize opened (Lg.read 0 128 54 C2) = L2 at *
                          generalize L2.wipeFrom 128 0 C2 = P2 at *
                          obtain ⟨S2, e2⟩ := P2
                          dsimp only at j5
                          subst j5
                          go_wp2_with fail
                          refine CO2.out.mono ?_
                          rintro e w11 ⟨p11, hb11, hcase2⟩
                          obtain ⟨g2, tv, dv2, pv2, rfl, hT, -⟩ : ∃ g ev dv pv, e = .returned (.tuple #[.pointer (some ⟨g, 0, none⟩), ev, .int .i64 0]) ∧ w11.ownsRow Bd 40 2 ev (all.take k2).length (enL 54 (all.take k2)) ∧ True := by
                            rcases hcase2 with ⟨-, g, ev, dv, pv, rfl, h, -⟩ | ⟨h, -⟩
                            · exact ⟨g, ev, dv, pv, rfl, h, trivial⟩
                            · exact absurd rfl h
                          obtain ⟨ta, tc, hte⟩ := tx_slice hT
                          subst hte
                          have lk2 : (all.take k2).length = k2 := by rw [List.length_take]; have := J2'.out; omega
                          rw [lk2] at hT
                          have VT := Lib.hid (show Ev w11 w11.heap.size (.slice ta k2 tc) k2 _ _ from by have := Ev.of_owns (l := all.take k2) (by rw [lk2]; exact hT); rw [lk2] at this; exact this)
                          have VE := Lib.hid (Ev.of_owns (ent_under E10.out EL9.out hb11))
        
                          have B11 := Lib.hid (B10.out.trans (hb11.mono HD.out))
                          have CP2 := Lib.hid (prefix_any w11 (.slice la all.length lc) (.slice ta k2 tc) all.length k2 _ _ _ _ VE.out VT.out (by have := TF.out; have := MO2.out; omega) (f : Int) (by have := J1'.out; omega) J2'.out (fun i hi => ⟨(plAt_take all 54 k2 i hi).symm, (rcAt_take all k2 i hi).symm⟩))
                          clear hcase2 CO2 hb11 hT D10 E10 B10
                          as_aux_lemma =>
                            clear EL9
                            go_wp2_with fail
                            refine CP2.out.mono ?_
                            rintro e w12 ⟨rfl, hb12⟩
                            have B12 := Lib.hid (below_then B11.out hb12 B11.out.size)
                            clear hb12 CP2 VT VE B11
                            as_aux_lemma =>
                              go_wp2_with fail
                              go_ret
                              exact ⟨rfl, B12.out⟩
end Go.Proofs.Ytplcddcdhnjfeaa
