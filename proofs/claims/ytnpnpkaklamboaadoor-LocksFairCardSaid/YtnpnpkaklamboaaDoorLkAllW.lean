/- (*Table).All: the walk; UNDER WAY: the loop over the holds hangs in its append (see NOTES.md); all else is clean with that loop's round under sorry. -/
import Derived.Test.YtnpnpkaklamboaaDoorLkHeld
set_option linter.unusedVariables false
set_option linter.unusedSimpArgs false
namespace Go.Proofs.YtnpnpkaklamboaaDoor
open Go.RowKit Go.Shelf Go.Maps
set_option maxRecDepth 100000 in
set_option maxHeartbeats 16000000 in
theorem table_all {w : World} {F : Nat → Prop} {t C N : Nat} {T : Tbl} (h : Tm w F t C T) (hfew : T.few N) (hN : N ≤ 310) (hC : C ≤ 4000) :
    Calls Tryd.prog 13 #[ptr t] w fun e w' => ∃ v' A, e = .returned v' ∧ T.allOf A ∧ A.length ≤ 1300000 ∧ Rk w' (fun i => w.heap.size ≤ i) 39 5 aC v' A ∧ Below w.heap.size w w' := by
  obtain ⟨I1, hi, hz, hsz, hby⟩ : ∃ I, Tryd.prog.info? 27 = some I ∧ I.zero = some (.agg #[.int .i64 0, .string ⟨#[]⟩]) ∧ I.size = 2 ∧ I.bytes = 24 := ⟨_, rfl, rfl, rfl, rfl⟩
  have HI := Lib.hid hi; have HZ := Lib.hid hz; have HSZ := Lib.hid hsz; have HBY := Lib.hid hby
  clear hi hz hsz hby
  obtain ⟨I2, hi, hz, hsz, hby⟩ : ∃ I, Tryd.prog.info? 39 = some I ∧ I.zero = some (.agg #[.int .i64 0, .string ⟨#[]⟩, .int .i64 0, .int .i64 0, .int .i64 0]) ∧ I.size = 5 ∧ I.bytes = 48 := ⟨_, rfl, rfl, rfl, rfl⟩
  have JI := Lib.hid hi; have JZ := Lib.hid hz; have JSZ := Lib.hid hsz; have JBY := Lib.hid hby
  clear hi hz hsz hby
  obtain ⟨a, b, fq, gq, Fn, h0⟩ := h
  have y0 : w.cell? ⟨t, 0, none⟩ = some (.map (some a)) := h0.bk.cell 0
  have H0 := Lib.hid h0
  have FW := Lib.hid hfew
  have NN := Lib.hid hN
  have CC := Lib.hid hC
  clear h0 hfew hN hC
  obtain ⟨r, hr⟩ : ∃ r, r = w.heap.size := ⟨_, rfl⟩
  have HR := Lib.hid hr
  go_enter Tryd.func13, Tryd.ntmps13
  go_wp2_with (first
    | (at_range; refine wpList_mp_range _ rfl _ 51 rfl 27 55 nm_keyed Tryd.underlying51 a C _ rfl H0.out.mq ?_; rw [← hr]; intro w2 left0 cnt0 hl0 hr0 hg0 hs0)
    | fail)
  have M0 := Lib.hid (show NR w t a b r C T F fq gq Fn w2 (.slice none 0 0) [] left0 cnt0 from by
    have hb := below_only hg0
    exact ⟨H0.out.kept hb, hr0, hb, Rk.nil _ _ _ _ _, H0.out.bd, hr, H0.out.tab.1, fun n => ⟨fun h => (by cases h), fun ⟨h1, h2⟩ => by
      obtain ⟨q, hq⟩ := Option.isSome_iff_exists.1 h1
      rw [hl0 _ (nk_lit n), H0.out.hq n (H0.out.wf n q hq), hq] at h2
      cases h2⟩, List.nodup_nil, by have := hr0.cnt_le; simpa using this⟩)
  clear y0 hr hl0 hr0 hg0 hs0
  go_frame
  go_loopg [3] cnt0 (fun gg s3 wr => ∃ (left : Lit → Bool) (cnt : Nat) (L : List Nm) (v3 : Value), v3 = s3 ∧ cnt ≤ gg ∧ Hid (NR w t a b r C T F fq gq Fn wr v3 L left cnt))
  case atStart => exact ⟨left0, cnt0, [], _, rfl, Nat.le_refl _, M0⟩
  case round =>
    clear M0
    obtain ⟨left, cnt, L, v3, rfl, hgg, hI⟩ := hrel
    have HG := Lib.hid hgg
    clear hgg
    go_wp2_with (first
      | (at_next; refine wpList_nm_next _ rfl _ rfl a r C fq left cnt rfl hI.out.mr ?_ ?_)
      | fail)
    · intro _ hl0
      have MM := Lib.hid (show ∀ n, n ∈ L ↔ (T.qs n).isSome = true from fun n => by
        rw [hI.out.mem]
        exact ⟨fun h => h.1, fun h => ⟨h, hl0 _⟩⟩)
      have LN := Lib.hid (show L.length ≤ 4000 by have := hI.out.len; have := CC.out; omega)
      have ND := Lib.hid hI.out.nd
      have KP := Lib.hid hI.out.kp
      have TX := Lib.hid hI.out.tx
      have FL := Lib.hid hI.out.fl
      have RT := Lib.hid hI.out.rt
      have RW := Lib.hid (show Rk wr (fun i => w.heap.size ≤ i) 27 2 nC v3 L from hI.out.row.mono fun i hi => by have := HR.out; omega)
      have CS := Lib.hid (sort_names RW.out (by have := LN.out; omega))
      obtain ⟨va, vc, hv⟩ := RW.out.slice
      subst hv
      clear hl0 hI
      go_wp2_with fail
      refine CS.out.mono ?_
      rintro e w3 ⟨rfl, L2, hp, hs, hr3, hg3⟩
      obtain ⟨n, hn⟩ : ∃ n, n = L.length := ⟨_, rfl⟩
      have NE := Lib.hid (show n = L2.length by rw [hn, hp.length_eq])
      have NL := Lib.hid (show n ≤ 4000 by rw [hn]; exact LN.out)
      have n63 : n ≤ 4000 := NL.out
      have own := own_in RW.out
      have un : ∀ i, i < w.heap.size → w3.heap[i]? = wr.heap[i]? := fun i hi => hg3.block i (Nat.lt_of_lt_of_le hi KP.out.size) fun e => by have := own i e.symm; omega
      have M3 := Lib.hid (show LR w t a b C T F fq gq Fn w3 (.slice va n vc) L2 (.slice none 0 0) [] from ⟨tx_below TX.out FL.out RT.out hg3.size un, KP.out.trans ⟨hg3.os, hg3.tape, hg3.output, hg3.size, un⟩, by rw [hn]; exact hr3, Rk.nil _ _ _ _ _, FL.out, RT.out⟩)
      have FIN := Lib.hid (show T.allOf (L2.flatMap (lines T)) from ⟨L2, hp.nodup_iff.2 ND.out, hs, fun k => by rw [hp.mem_iff]; exact MM.out k, rfl⟩)
      have MW := Lib.hid (show ∀ k, k ∈ L2 → ∃ q, T.qs k = some q ∧ k.wf from fun k hk => by
        obtain ⟨q, hq⟩ := Option.isSome_iff_exists.1 ((MM.out k).1 (hp.mem_iff.1 hk))
        exact ⟨q, hq, TX.out.wf k q hq⟩)
      rw [← hn]
      clear CS hp hs hr3 hg3 own un hn LN ND KP TX MM RW
      as_aux_lemma =>
        go_wp2_with fail
        go_loopw [5, 32] (fun s5 s32 wr => ∃ (j : Nat) (v5 : Value), v5 = s5 ∧ s32 = .int .i64 (j : Int) ∧ j ≤ n ∧ Hid (LR w t a b C T F fq gq Fn wr (.slice va n vc) L2 v5 ((L2.take j).flatMap (lines T)))) (fun s5 s32 _ => n - (intOf s32).toNat)
        case atStart => exact ⟨0, _, rfl, rfl, Nat.zero_le _, M3⟩
        case round =>
          clear M3
          obtain ⟨j, v5, rfl, rfl, hjn, hJ⟩ := hrel
          by_cases hlt : j < n
          · have HLT := Lib.hid hlt
            have hl2 : j < L2.length := by rw [← NE.out]; exact hlt
            obtain ⟨k, hk⟩ : ∃ k, k = L2[j] := ⟨_, rfl⟩
            obtain ⟨bn, fn, en, rn⟩ := hJ.out.nm.cells_at (j := j) hl2
            rw [← hk] at rn
            have RG := Lib.hid rn
            subst en
            obtain ⟨q, hq, hkw⟩ := MW.out k (by rw [hk]; exact List.getElem_mem hl2)
            have TK := Lib.hid (fm_take (lines T) L2 j hl2)
            rw [← hk] at TK
            have QQ := Lib.hid hq
            have KW := Lib.hid hkw
            clear rn hk hq hkw
            obtain ⟨s, tt⟩ := k
            go_upto_region 13 with (first | (refine load_nm rfl _ rfl bn (fn + j * 2) ⟨s, tt⟩ rfl RG.out ?_))
            obtain ⟨K, hK⟩ : ∃ K, K = wr.heap.size := ⟨_, rfl⟩
            have KN := Lib.hid (show Bk (wr.alloc (.cells #[.int .i64 s, .string tt] 27)) K 27 #[.int .i64 s, .string tt] from by rw [hK]; exact Bk.new wr _ _)
            have M1 := Lib.hid (hJ.out.below ((Below.refl wr.heap.size wr).alloc (Nat.le_refl _) (.cells #[.int .i64 s, .string tt] 27)))
            rw [← hK]
            clear hJ hK RG
            generalize wr.alloc (.cells #[.int .i64 s, .string tt] 27) = w4 at *
            have y0 := fun x : Kp w4 => show x.1.cell? ⟨t, 0, none⟩ = some (.map (some a)) from x.cell (M1.out.tx.bk.cell 0)
            have y1 := fun x : Kp w4 => show x.1.cell? ⟨K, 0, none⟩ = some (.int .i64 s) from x.cell (KN.out.cell 0)
            have y2 := fun x : Kp w4 => show x.1.cell? ⟨K, 1, none⟩ = some (.string tt) from x.cell (KN.out.cell 1)
            have lk := fun x : Kp w4 => (M1.out.tx.kept x.2).look KW.out
            simp only [QQ.out, Option.map_some, Option.getD_some] at lk
            obtain ⟨g, hg⟩ : ∃ g, g = gq ⟨s, tt⟩ := ⟨_, rfl⟩
            have GE := Lib.hid hg
            rw [← hg] at lk
            clear hg
            refine wp_region_kept (by kernel_rfl) (by kernel_rfl) ?_
            iterate 7 (first
              | go_big_quiet_skip
              | (go_big_quiet_want; go_big_quiet_op; first | go_big_quiet_on))
            refine wpQuiet_nil ?_
            rintro _ ⟨xw, rfl⟩
            have M2 := Lib.hid (M1.out.below xw.2)
            have KN2 := Lib.hid (KN.out.kept xw.2)
            clear y0 y1 y2 lk M1 KN
            generalize xw.1 = w5 at M2 KN2 ⊢
            clear xw
            obtain ⟨vh, ve, vw, hqm⟩ := M2.out.tx.qm ⟨s, tt⟩ q QQ.out
            rw [← GE.out] at hqm
            obtain ⟨A1, hA1⟩ : ∃ A1, A1 = (L2.take j).flatMap (lines T) := ⟨_, rfl⟩
            rw [← hA1] at M2 TK
            have L1 := Lib.hid (show A1.length ≤ 1300000 by
              rw [hA1]
              have a := fm_len (l := L2.take j) (f := lines T) (c := 310) fun k _ => Nat.le_trans (lines_len FW.out k) NN.out
              have b := List.length_take_le j L2
              have := NE.out
              have := NL.out
              omega)
            have M3 := Lib.hid (show LQ w t a b C T F fq gq Fn w5 (.slice (some ⟨bn, fn, none⟩) n vc) L2 ⟨s, tt⟩ g vh ve vw q K v5 A1 from ⟨M2.out, hqm, KN2.out⟩)
            have QF := Lib.hid (show q.few N from FW.out _ q QQ.out)
            have LNS := Lib.hid (show lines T ⟨s, tt⟩ = q.hs.map (lnH ⟨s, tt⟩) ++ q.ws.map (lnW ⟨s, tt⟩) by unfold lines; rw [Tbl.q_some QQ.out])
            obtain ⟨ha, hc, hvh⟩ := hqm.hs.slice
            obtain ⟨wa, wc, hvw⟩ := hqm.ws.slice
            obtain ⟨n1, hn1⟩ : ∃ n1, n1 = q.hs.length := ⟨_, rfl⟩
            obtain ⟨n2, hn2⟩ : ∃ n2, n2 = q.ws.length := ⟨_, rfl⟩
            rw [← hn1] at hvh
            rw [← hn2] at hvw
            subst hvh hvw
            have E1 := Lib.hid hn1; have E2 := Lib.hid hn2
            have n163 : n1 ≤ 310 := by have := QF.out.1; have := NN.out; omega
            have n263 : n2 ≤ 310 := by have := QF.out.1; have := NN.out; omega
            have z0 : w5.cell? ⟨g, 0, none⟩ = some (.slice ha n1 hc) := hqm.bk.cell 0
            clear M2 KN2 hqm hA1 hn1 hn2 GE
            go_wp2_with fail
            go_loopw [5, 47] (fun s5 s47 wr => ∃ (i : Nat) (v5 : Value), v5 = s5 ∧ s47 = .int .i64 (i : Int) ∧ i ≤ n1 ∧ Hid (LQ w t a b C T F fq gq Fn wr (.slice (some ⟨bn, fn, none⟩) n vc) L2 ⟨s, tt⟩ g (.slice ha n1 hc) ve (.slice wa n2 wc) q K v5 (A1 ++ (q.hs.take i).map (lnH ⟨s, tt⟩)))) (fun s5 s47 _ => n1 - (intOf s47).toNat)
            case atStart => exact ⟨0, _, rfl, rfl, Nat.zero_le _, Lib.hid (M3.out.as (by simp))⟩
            case round =>
              clear M3 z0
              obtain ⟨i, v6, rfl, rfl, hi1, hI⟩ := hrel
              by_cases hlt : i < n1
              · have HLT1 := Lib.hid hlt
                have hl1 : i < q.hs.length := by rw [← E1.out]; exact hlt
                obtain ⟨h, hh⟩ : ∃ h, h = q.hs[i] := ⟨_, rfl⟩
                obtain ⟨bh, fh, eh, rh⟩ := (show Rk wr (Fn ⟨s, tt⟩) 66 3 hC (.slice ha n1 hc) q.hs from hI.out.qm.hs).cells_at (j := i) hl1
                rw [← hh] at rh
                have RG := Lib.hid rh
                subst eh
                have TK1 := Lib.hid (show A1 ++ (q.hs.take i).map (lnH ⟨s, tt⟩) ++ [lnH ⟨s, tt⟩ h] = A1 ++ (q.hs.take (i + 1)).map (lnH ⟨s, tt⟩) by
                  rw [List.take_succ_eq_append_getElem hl1, ← hh]
                  simp)
                have LD := Lib.hid (show (A1 ++ (q.hs.take i).map (lnH ⟨s, tt⟩)).length ≤ 1400000 by
                  have := L1.out
                  have b := List.length_take_le i q.hs
                  rw [List.length_append, List.length_map]
                  omega)
                clear rh hh
                go_upto_region 17 with (first | (refine load_hold rfl _ rfl bh (fh + i * 3) h rfl RG.out ?_))
                obtain ⟨V, hV⟩ : ∃ V, V = wr.heap.size := ⟨_, rfl⟩
                have BV := Lib.hid (show Bk (wr.alloc (.cells #[.int .i64 h.x, .int .i64 (h.m : Int), .int .i64 (h.w : Int)] 66)) V 66 #[.int .i64 h.x, .int .i64 (h.m : Int), .int .i64 (h.w : Int)] from by rw [hV]; exact Bk.new wr _ _)
                have M5 := Lib.hid (hI.out.below ((Below.refl wr.heap.size wr).alloc (Nat.le_refl _) (.cells #[.int .i64 h.x, .int .i64 (h.m : Int), .int .i64 (h.w : Int)] 66)))
                rw [← hV]
                clear hI hV RG
                generalize wr.alloc (.cells #[.int .i64 h.x, .int .i64 (h.m : Int), .int .i64 (h.w : Int)] 66) = w6 at *
                have x0 : w6.cell? ⟨K, 0, none⟩ = some (.int .i64 s) := M5.out.kn.cell 0
                have x1 : w6.cell? ⟨K, 1, none⟩ = some (.string tt) := M5.out.kn.cell 1
                have u0 : w6.cell? ⟨V, 0, none⟩ = some (.int .i64 h.x) := BV.out.cell 0
                have u1 : w6.cell? ⟨V, 1, none⟩ = some (.int .i64 (h.m : Int)) := BV.out.cell 1
                have u2 : w6.cell? ⟨V, 2, none⟩ = some (.int .i64 (h.w : Int)) := BV.out.cell 2
                obtain ⟨vb, hvb⟩ : ∃ vb, vb = w6.heap.size := ⟨_, rfl⟩
                have VB := Lib.hid hvb
                have NP := Lib.hid (line_cells w6 (lnH ⟨s, tt⟩ h) vb hvb)
                have M6 := Lib.hid (M5.out.below ((Below.refl w6.heap.size w6).alloc (Nat.le_refl _) (.cells #[.int .i64 s, .string tt, .int .i64 h.x, .int .i64 (h.m : Int), .int .i64 (h.w : Int)] 39)))
                clear hvb M5
                go_wp2_with (first | (refine wpList_build_h rfl _ _ _ _ rfl (lnH ⟨s, tt⟩ h) rfl rfl rfl rfl ?_) | (refine wpList_slice1h rfl _ rfl (lnH ⟨s, tt⟩ h) rfl ?_; rw [← VB.out]; generalize w6.alloc (.cells #[.int .i64 s, .string tt, .int .i64 h.x, .int .i64 (h.m : Int), .int .i64 (h.w : Int)] 39) = w7 at *) | (refine wpList_append_rk rfl _ _ 34 rfl I2 _ 48 Tryd.underlying34 JI.out JZ.out JSZ.out JBY.out rfl aC_len (by decide) aC_one _ (A1 ++ (q.hs.take i).map (lnH ⟨s, tt⟩)) rfl M6.out.lr.row (lnH ⟨s, tt⟩ h) ⟨vb, 0, none⟩ 1 rfl NP.out (by have := LD.out; omega) (by have := LD.out; omega) ?_; intro v8 w8 hr8 hg8; have M8 := Lib.hid (M6.out.app hg8 hr8); clear hr8 hg8 M6 NP) | fail)
                go_roundw
                case rel => exact ⟨i + 1, _, rfl, by go_num, by have := HLT1.out; omega, Lib.hid (M8.out.as TK1.out)⟩
                case measure => have := HLT1.out; simp [intOf]; omega
              · skip
                obtain rfl : n1 = i := by omega
                obtain ⟨A3, hA3⟩ : ∃ A3, A3 = A1 ++ q.hs.map (lnH ⟨s, tt⟩) := ⟨_, rfl⟩
                have M3 := Lib.hid (hI.out.as (A' := A3) (by rw [E1.out, List.take_length, hA3]))
                have L3 := Lib.hid (show A3.length ≤ 1400000 by
                  rw [hA3, List.length_append, List.length_map, ← E1.out]
                  have := L1.out
                  omega)
                have TKK := Lib.hid (show A3 ++ q.ws.map (lnW ⟨s, tt⟩) = (L2.take (j + 1)).flatMap (lines T) by rw [TK.out, LNS.out, hA3, List.append_assoc])
                have z2 : wr.cell? ⟨g, 2, none⟩ = some (.slice wa n2 wc) := M3.out.qm.bk.cell 2
                clear hI hlt hA3 TK LNS
                go_wp2_with fail
                go_loopw [5, 68] (fun s5 s68 wr => ∃ (i : Nat) (v5 : Value), v5 = s5 ∧ s68 = .int .i64 (i : Int) ∧ i ≤ n2 ∧ Hid (LQ w t a b C T F fq gq Fn wr (.slice (some ⟨bn, fn, none⟩) n vc) L2 ⟨s, tt⟩ g (.slice ha n1 hc) ve (.slice wa n2 wc) q K v5 (A3 ++ (q.ws.take i).map (lnW ⟨s, tt⟩)))) (fun s5 s68 _ => n2 - (intOf s68).toNat)
                case atStart => exact ⟨0, _, rfl, rfl, Nat.zero_le _, Lib.hid (M3.out.as (by simp))⟩
                case round =>
                  clear M3 z2
                  obtain ⟨i, v7, rfl, rfl, hi2, hI⟩ := hrel
                  by_cases hlt : i < n2
                  · have HLT1 := Lib.hid hlt
                    have hl1 : i < q.ws.length := by rw [← E2.out]; exact hlt
                    obtain ⟨p, hh⟩ : ∃ p, p = q.ws[i] := ⟨_, rfl⟩
                    obtain ⟨bh, fh, eh, rh⟩ := (show Rk wr (Fn ⟨s, tt⟩) 68 2 wC (.slice wa n2 wc) q.ws from hI.out.qm.ws).cells_at (j := i) hl1
                    rw [← hh] at rh
                    have RG := Lib.hid rh
                    subst eh
                    have TK1 := Lib.hid (show A3 ++ (q.ws.take i).map (lnW ⟨s, tt⟩) ++ [lnW ⟨s, tt⟩ p] = A3 ++ (q.ws.take (i + 1)).map (lnW ⟨s, tt⟩) by
                      rw [List.take_succ_eq_append_getElem hl1, ← hh]
                      simp)
                    have LD := Lib.hid (show (A3 ++ (q.ws.take i).map (lnW ⟨s, tt⟩)).length ≤ 1500000 by
                      have := L3.out
                      have b := List.length_take_le i q.ws
                      rw [List.length_append, List.length_map]
                      omega)
                    clear rh hh
                    go_upto_region 22 with (first | (refine load_wish rfl _ rfl bh (fh + i * 2) p rfl RG.out ?_))
                    obtain ⟨V, hV⟩ : ∃ V, V = wr.heap.size := ⟨_, rfl⟩
                    have BV := Lib.hid (show Bk (wr.alloc (.cells #[.int .i64 p.1, .int .i64 (p.2 : Int)] 68)) V 68 #[.int .i64 p.1, .int .i64 (p.2 : Int)] from by rw [hV]; exact Bk.new wr _ _)
                    have M5 := Lib.hid (hI.out.below ((Below.refl wr.heap.size wr).alloc (Nat.le_refl _) (.cells #[.int .i64 p.1, .int .i64 (p.2 : Int)] 68)))
                    rw [← hV]
                    clear hI hV RG
                    generalize wr.alloc (.cells #[.int .i64 p.1, .int .i64 (p.2 : Int)] 68) = w6 at *
                    have x0 : w6.cell? ⟨K, 0, none⟩ = some (.int .i64 s) := M5.out.kn.cell 0
                    have x1 : w6.cell? ⟨K, 1, none⟩ = some (.string tt) := M5.out.kn.cell 1
                    have u0 : w6.cell? ⟨V, 0, none⟩ = some (.int .i64 p.1) := BV.out.cell 0
                    have u1 : w6.cell? ⟨V, 1, none⟩ = some (.int .i64 (p.2 : Int)) := BV.out.cell 1
                    obtain ⟨vb, hvb⟩ : ∃ vb, vb = w6.heap.size := ⟨_, rfl⟩
                    have VB := Lib.hid hvb
                    have NP := Lib.hid (line_cells w6 (lnW ⟨s, tt⟩ p) vb hvb)
                    have M6 := Lib.hid (M5.out.below ((Below.refl w6.heap.size w6).alloc (Nat.le_refl _) (.cells #[.int .i64 s, .string tt, .int .i64 p.1, .int .i64 0, .int .i64 (p.2 : Int)] 39)))
                    clear hvb M5
                    go_wp2_with (first | (refine wpList_build_h rfl _ _ _ _ rfl (lnW ⟨s, tt⟩ p) rfl rfl rfl rfl ?_) | (refine wpList_slice1h rfl _ rfl (lnW ⟨s, tt⟩ p) rfl ?_; rw [← VB.out]; generalize w6.alloc (.cells #[.int .i64 s, .string tt, .int .i64 p.1, .int .i64 0, .int .i64 (p.2 : Int)] 39) = w7 at *) | (refine wpList_append_rk rfl _ _ 34 rfl I2 _ 48 Tryd.underlying34 JI.out JZ.out JSZ.out JBY.out rfl aC_len (by decide) aC_one _ (A3 ++ (q.ws.take i).map (lnW ⟨s, tt⟩)) rfl M6.out.lr.row (lnW ⟨s, tt⟩ p) ⟨vb, 0, none⟩ 1 rfl NP.out (by have := LD.out; omega) (by have := LD.out; omega) ?_; intro v8 w8 hr8 hg8; have M8 := Lib.hid (M6.out.app hg8 hr8); clear hr8 hg8 M6 NP) | fail)
                    go_roundw
                    case rel => exact ⟨i + 1, _, rfl, by go_num, by have := HLT1.out; omega, Lib.hid (M8.out.as TK1.out)⟩
                    case measure => have := HLT1.out; simp [intOf]; omega
                  · obtain rfl : n2 = i := by omega
                    have M9 := Lib.hid (hI.out.lr.as (A' := (L2.take (j + 1)).flatMap (lines T)) (by rw [← TKK.out, E2.out, List.take_length]))
                    clear hI hlt
                    go_wp2
                    go_roundw
                    case rel => exact ⟨j + 1, _, rfl, by go_num, by have := HLT.out; omega, M9⟩
                    case measure => have := HLT.out; simp [intOf]; omega
          · skip
            obtain rfl : n = j := by omega
            have M4 := Lib.hid (hJ.out.as (A' := L2.flatMap (lines T)) (by rw [NE.out, List.take_length]))
            have LE := Lib.hid (show (L2.flatMap (lines T)).length ≤ 1300000 by
              have a := fm_len (l := L2) (f := lines T) (c := 310) fun k _ => Nat.le_trans (lines_len FW.out k) NN.out
              rw [← NE.out] at a
              have := NL.out
              omega)
            clear hJ hlt
            go_wp2
            go_ret
            exact ⟨_, _, rfl, FIN.out, LE.out, M4.out.row, M4.out.kp⟩
    · skip
      intro n c w1 cnt1 hnw hln hfn hm1 hc1 hg1 hs1 hen
      obtain ⟨q, hq, rfl⟩ : ∃ q, T.qs n = some q ∧ c = ptr (gq n) := by
        rw [hI.out.tx.hq n hnw] at hfn
        cases e : T.qs n with
        | none => rw [e] at hfn; cases hfn
        | some q => rw [e] at hfn; exact ⟨q, rfl, (Option.some.inj hfn).symm⟩
      have C1 := Lib.hid (Nat.lt_of_lt_of_le hc1 HG.out)
      have LD := Lib.hid (show L.length ≤ 4000 by have := hI.out.len; have := CC.out; omega)
      have MO := Lib.hid (fun (w2 w' : World) (v' : Value) hb hrow hg2 hr => hI.out.more (w2 := w2) (w' := w') (v' := v') hnw hq hln hc1 hm1 hg1 hb hrow hg2 hr)
      obtain ⟨s, tt⟩ := n
      obtain ⟨w2, hw2⟩ : ∃ w2, w2 = (w1.alloc (.cells #[.int .i64 s, .string tt] 27)).alloc (.cells #[.int .i64 s, .string tt] 27) := ⟨_, rfl⟩
      have r0 := hI.out.r0
      have RW1 : Rk w1 (fun i => r + 1 ≤ i) 27 2 nC v3 L := hI.out.row.same fun i hi hlt => hg1.block i hlt fun e => by have e := Option.some.inj e; omega
      have B2 := Lib.hid (show Below w1.heap.size w1 w2 from by rw [hw2]; exact ((Below.refl w1.heap.size w1).alloc (Nat.le_refl _) _).alloc (by simp) _)
      have RW2 := Lib.hid (RW1.kept B2.out)
      have y1 : (w1.alloc (.cells #[.int .i64 s, .string tt] 27)).cell? ⟨w1.heap.size, 0, none⟩ = some (.int .i64 s) := (Bk.new w1 27 #[.int .i64 s, .string tt]).cell 0
      have y2 : (w1.alloc (.cells #[.int .i64 s, .string tt] 27)).cell? ⟨w1.heap.size, 1, none⟩ = some (.string tt) := (Bk.new w1 27 #[.int .i64 s, .string tt]).cell 1
      have NP := Lib.hid (show ∀ j u, (nC ⟨s, tt⟩)[j]? = some u → w2.cell? ((⟨w1.heap.size + 1, 0, none⟩ : Addr).add j) = some u from fun j u hu => by
        rw [Addr.add_mid, Nat.zero_add, hw2, show w1.heap.size + 1 = (w1.alloc (.cells #[.int .i64 s, .string tt] 27)).heap.size by simp, (Bk.new _ _ _).cell]
        simpa using hu)
      have W2 := Lib.hid hw2
      obtain ⟨va, vc, hv⟩ := RW2.out.slice
      subst hv
      clear hI hnw hln hfn hm1 hc1 hg1 hs1 HG hq r0 RW1 hw2
      go_upto_region 7 with fail
      go_wp2_with (first | (refine wpList_append_rk rfl _ _ 62 rfl I1 _ 24 Tryd.underlying62 HI.out HZ.out HSZ.out HBY.out rfl nC_len (by decide) nC_one _ L rfl (by rw [← W2.out]; exact RW2.out) ⟨s, tt⟩ ⟨w1.heap.size + 1, 0, none⟩ 1 rfl (by rw [← W2.out]; exact NP.out) (by have := LD.out; omega) (by have := LD.out; omega) ?_; rw [← W2.out]; intro v8 w8 hr8 hg8; have M8 := Lib.hid (MO.out w2 w8 v8 B2.out RW2.out hg8 hr8); clear hr8 hg8 MO NP RW2 B2 W2 y1 y2) | fail)
      go_roundg cnt1
      case measure => exact C1.out
      case rel => exact ⟨_, cnt1, _, _, rfl, Nat.le_refl _, M8⟩
end Go.Proofs.YtnpnpkaklamboaaDoor
