/- LocksTogether. -/
import Derived.Test.YtnpnpkaklamboaaDoorLkTw
set_option linter.unusedVariables false
set_option linter.unusedSimpArgs false
namespace Go.Proofs.YtnpnpkaklamboaaDoor
open Go.RowKit Go.Shelf

theorem tab_LocksTogether (W : World) (h : W.cell? ⟨0, 0, none⟩ = some (.int .i64 0) ∧ W.cell? ⟨0, 1, none⟩ = some (.int .i64 1) ∧ W.cell? ⟨0, 2, none⟩ = some (.int .i64 3) ∧
    W.cell? ⟨0, 3, none⟩ = some (.int .i64 5) ∧ W.cell? ⟨0, 4, none⟩ = some (.int .i64 7) ∧ W.cell? ⟨0, 5, none⟩ = some (.int .i64 13) ∧ W.cell? ⟨0, 6, none⟩ = some (.int .i64 31)) : Tab W := tab_of W h
set_option maxRecDepth 100000 in
set_option maxHeartbeats 16000000 in
theorem walk_LocksTogether (v0 : Value) (l : List Cl) (W : World) (hT : Tab W) (h0 : ClAt W W.heap.size v0 l) :
    Calls Tryd.prog 3 #[v0] W fun e w' => e = .returned (.bool true) ∧ Below W.heap.size W w' := by
  have IN := Lib.hid h0
  obtain ⟨⟨a, cp, rfl, hat⟩, hlen, hbd⟩ := h0
  have AT := Lib.hid hat
  have BD := Lib.hid hbd
  obtain ⟨N, hN⟩ : ∃ N, N = l.length := ⟨_, rfl⟩
  have NE := Lib.hid hN
  have N63 : N ≤ 9223372036854775807 := by unfold maxLen at hlen; omega
  rw [← hN]
  have T0 := Lib.hid hT
  clear hT hat hbd hlen hN
  go_enter Tryd.func3, Tryd.ntmps3
  have CA := Lib.hid (awake_any T0.out)
  go_wp2_with fail
  refine CA.out.mono ?_
  rintro e w3 ⟨rfl, hb⟩
  have TB := Lib.hid (T0.out.below hb)
  have B := Lib.hid hb
  clear T0 CA hb
  have C0 := Lib.hid (l1_new TB.out)
  go_wp2_with fail
  refine C0.out.mono ?_
  rintro e w4 ⟨t, rfl, hL⟩
  have M0 := Lib.hid hL
  clear C0 hL
  as_aux_lemma =>
    go_wp2_with fail
    go_loopw [20] (fun s20 wr => ∃ (i : Nat) (T : Tbl), s20 = .int .i64 (i : Int) ∧ i ≤ N ∧ i ≤ 300 ∧ Hid (L1 w3 (fun _ => False) wr t i T)) (fun s20 _ => N - (intOf s20).toNat)
    case atStart => exact ⟨0, _, rfl, Nat.zero_le _, Nat.zero_le _, M0⟩
    case round =>
      clear M0
      obtain ⟨i, T, rfl, hiN, hi2, hI⟩ := hrel
      by_cases hlt : i < N
      · have HLT := Lib.hid hlt
        have IW := Lib.hid (IN.out.below (below_then B.out hI.out.kp B.out.size))
        obtain ⟨⟨a', cp', ha, hat⟩, -, -⟩ := IW.out
        obtain ⟨rfl, rfl⟩ : a = a' ∧ cp = cp' := by
          have h := ha
          rw [← NE.out] at h
          simpa using h
        obtain ⟨b, off, rfl, -, hR⟩ := hat i (by rw [← NE.out]; exact hlt)
        obtain ⟨c, hc⟩ : ∃ c, c = l[i]'(by rw [← NE.out]; exact hlt) := ⟨_, rfl⟩
        rw [← hc] at hR
        have RG := Lib.hid hR
        have CI := Lib.hid (show c.in_ from BD.out c (by rw [hc]; exact List.getElem_mem _))
        clear hat hR hc ha IW
        obtain ⟨x, ⟨s, tt⟩, m⟩ := c
        go_upto_region 7 with (first | (refine load_cl rfl _ rfl b (off + i * 4) ⟨x, ⟨s, tt⟩, m⟩ rfl RG.out ?_))
        obtain ⟨K, hK⟩ : ∃ K, K = wr.heap.size := ⟨_, rfl⟩
        have KN := Lib.hid (show Bk (wr.alloc (.cells #[.int .i64 x, .int .i64 s, .string tt, .int .i64 m] 29)) K 29 #[.int .i64 x, .int .i64 s, .string tt, .int .i64 m] from by rw [hK]; exact Bk.new wr _ _)
        have M1 := Lib.hid (show L1 w3 (fun i => i = K) (wr.alloc (.cells #[.int .i64 x, .int .i64 s, .string tt, .int .i64 m] 29)) t i T from (hI.out.alloc _).sub fun i hi => .inr (by rw [hi, hK]))
        rw [← hK]
        clear hI hK RG
        generalize wr.alloc (.cells #[.int .i64 x, .int .i64 s, .string tt, .int .i64 m] 29) = w5 at *
        by_cases h300 : i = 300
        · subst h300
          have BE := Lib.hid (below_then B.out M1.out.kp B.out.size)
          go_wp2
          go_ret
          exact ⟨rfl, BE.out⟩
        · have h300' : ((i : Int) == 300) = false := beq_eq_false_iff_ne.2 (by omega)
          have h300'' : ¬ ((i : Int) = 300) := by omega
          have i299 : i ≤ 299 := by omega
          clear hi2 h300
          have k0 : w5.cell? ⟨K, 0, none⟩ = some (.int .i64 x) := KN.out.cell 0
          have k1 : w5.cell? ⟨K, 1, none⟩ = some (.int .i64 s) := KN.out.cell 1
          have k2 : w5.cell? ⟨K, 2, none⟩ = some (.string tt) := KN.out.cell 2
          have k3 : w5.cell? ⟨K, 3, none⟩ = some (.int .i64 m) := KN.out.cell 3
          as_aux_lemma =>
            go_upto_if 29 with fail
            go_cut [29] (fun s29 wx => Hid (∃ T', L1 w3 (fun _ => False) wx t (i + 1) T'))
            case first =>
              by_cases hm : m = 0
              · subst hm
                have C1 := Lib.hid (l1_rel M1.out (by omega) x CI.out.x)
                as_aux_lemma =>
                  go_wp2_with fail
                  refine C1.out.mono ?_
                  rintro e w6 ⟨rfl, hL, hs⟩
                  have M2 := Lib.hid (show ∃ T', L1 w3 (fun _ => False) w6 t (i + 1) T' from ⟨_, (hL.sub fun i hi => hi.elim).more (Nat.le_succ i)⟩)
                  clear C1 hL hs M1
                  go_wp2
                  go_meet
                  exact M2
              · have hm' : (m == 0) = false := beq_eq_false_iff_ne.2 hm
                have C1 := Lib.hid (l1_any M1.out (by omega) x CI.out.x ⟨s, tt⟩ CI.out.n m)
                as_aux_lemma =>
                  go_wp2_with fail
                  refine C1.out.mono ?_
                  rintro e w6 ⟨bb, cc, T', rfl, hL, hs⟩
                  have M2 := Lib.hid (show ∃ T', L1 w3 (fun _ => False) w6 t (i + 1) T' from ⟨_, hL.sub fun i hi => hi.elim⟩)
                  clear C1 hL hs M1
                  go_wp2
                  go_meet
                  exact M2
            case rest =>
              clear M1 KN k0 k1 k2 k3
              obtain ⟨T2, hL⟩ := hcut.out
              have M2 := Lib.hid hL
              have OK := Lib.hid hL.ok
              have BT := Lib.hid hL.bd
              clear hcut hL
              have C1 := Lib.hid (l1_all M2.out (by omega))
              as_aux_lemma =>
                go_wp2_with fail
                refine C1.out.mono ?_
                rintro e w6 ⟨v6, A, rfl, hA, hAl, hra, hb⟩
                have M3 := Lib.hid (M2.out.kept hb)
                have RA := Lib.hid hra
                have AA := Lib.hid hA
                have AL := Lib.hid hAl
                have C2 := Lib.hid (l1_arcs M3.out (by omega))
                clear C1 M2 hb hra hA hAl
                as_aux_lemma =>
                  go_wp2_with fail
                  refine C2.out.mono ?_
                  rintro e w7 ⟨v7, D, rfl, hD, hDl, hrd, hb⟩
                  have M4 := Lib.hid (show TG w3 w7 t (i + 1) T2 v6 A v7 D from ⟨M3.out.kept hb, (RA.out.mono fun _ _ => trivial).kept hb, hrd.mono fun _ _ => trivial⟩)
                  have DD := Lib.hid hD
                  have DL := Lib.hid hDl
                  have PR := Lib.hid (all_pair OK.out AA.out)
                  clear C2 M3 hb hrd hD hDl RA
                  obtain ⟨va, vc, hva⟩ := M4.out.a.slice
                  obtain ⟨da, dc, hda⟩ := M4.out.b.slice
                  subst hva hda
                  obtain ⟨n1, hn1⟩ : ∃ n1, n1 = A.length := ⟨_, rfl⟩
                  obtain ⟨n2, hn2⟩ : ∃ n2, n2 = D.length := ⟨_, rfl⟩
                  have E1 := Lib.hid hn1
                  have E2 := Lib.hid hn2
                  have n1b : n1 ≤ 1300000 := by rw [hn1]; exact AL.out
                  have n2b : n2 ≤ 1000000000 := by rw [hn2]; exact DL.out
                  rw [← hn1] at M4 ⊢
                  rw [← hn2] at M4 ⊢
                  have hvc : n1 ≤ vc := by
                    rcases M4.out.a with ⟨h1, h2⟩ | ⟨b', o', c', cu, h1, -, h2⟩
                    · injection h1 with h3 h4 h5; omega
                    · injection h1 with h3 h4 h5
                      have := h2.le
                      omega
                  clear hn1 hn2 AL DL
                  as_aux_lemma =>
                    go_wp2_with fail
                    go_loopw [48] (fun s48 wr => ∃ j : Nat, s48 = .int .i64 (j : Int) ∧ j ≤ n1 ∧ Hid (TG w3 wr t (i + 1) T2 (.slice va n1 vc) A (.slice da n2 dc) D)) (fun s48 _ => n1 - (intOf s48).toNat)
                    case atStart => exact ⟨0, rfl, Nat.zero_le _, M4⟩
                    case round =>
                      clear M4
                      obtain ⟨j, rfl, hjn, hJ⟩ := hrel
                      by_cases hlt : j < n1
                      · have HLJ := Lib.hid hlt
                        have hl1 : j < A.length := by rw [← E1.out]; exact hlt
                        obtain ⟨h, hh⟩ : ∃ h, h = A[j] := ⟨_, rfl⟩
                        obtain ⟨bh, fh, eh, rh⟩ := (show Rk wr (fun _ => True) 39 5 aC (.slice va n1 vc) A from hJ.out.a).cells_at (j := j) hl1
                        rw [← hh] at rh
                        have RG := Lib.hid rh
                        subst eh
                        have MEM := Lib.hid (show h ∈ A from by rw [hh]; exact List.getElem_mem _)
                        have PJ := Lib.hid (show ∀ (m : Nat) (hm : j + 1 + m < A.length), h.n = A[j + 1 + m].n → h.m ≠ 0 → A[j + 1 + m].m ≠ 0 → cpN h.m A[j + 1 + m].m = true from fun m hm => by
                          rw [hh]; exact (List.pairwise_iff_getElem.1 PR.out) j (j + 1 + m) hl1 hm (by omega))
                        have j1 : j + 1 ≤ n1 := hlt
                        have j2 : (j : Int) + 1 ≤ (n1 : Int) := by omega
                        clear rh hh
                        go_upto_region 16 with (first | (refine load_ln rfl _ rfl bh (fh + j * 5) h rfl RG.out ?_))
                        obtain ⟨V, hV⟩ : ∃ V, V = wr.heap.size := ⟨_, rfl⟩
                        have BV := Lib.hid (show Bk (wr.alloc (.cells #[.int .i64 h.n.s, .string h.n.t, .int .i64 h.x, .int .i64 (h.m : Int), .int .i64 (h.w : Int)] 39)) V 39 #[.int .i64 h.n.s, .string h.n.t, .int .i64 h.x, .int .i64 (h.m : Int), .int .i64 (h.w : Int)] from by rw [hV]; exact Bk.new wr _ _)
                        have M5 := Lib.hid (hJ.out.kept ((Below.refl wr.heap.size wr).alloc (Nat.le_refl _) (.cells #[.int .i64 h.n.s, .string h.n.t, .int .i64 h.x, .int .i64 (h.m : Int), .int .i64 (h.w : Int)] 39)))
                        rw [← hV]
                        clear hJ hV RG
                        generalize wr.alloc (.cells #[.int .i64 h.n.s, .string h.n.t, .int .i64 h.x, .int .i64 (h.m : Int), .int .i64 (h.w : Int)] 39) = w8 at *
                        obtain ⟨ad, cc, hsl, had⟩ := slice_ln bh fh n1 vc j j1
                        have AD := Lib.hid (had hvc)
                        obtain ⟨r, hr⟩ : ∃ r, r = n1 - (j + 1) := ⟨_, rfl⟩
                        have RR := Lib.hid hr
                        rw [← hr] at hsl
                        have r63 : r ≤ 1300000 := by omega
                        clear hr had
                        go_wp2_with (first | (refine wpList_slice_as rfl 34 _ _ rfl holdElem.1 (.slice (some ⟨bh, fh, none⟩) n1 vc) (.int .i64 ((j : Int) + 1)) (.slice (some ad) r cc) rfl rfl (hsl _) ?_) | fail)
                        clear hsl
                        go_loopw [58] (fun s58 wr => ∃ m : Nat, s58 = .int .i64 (m : Int) ∧ m ≤ r ∧ Hid (TG w3 wr t (i + 1) T2 (.slice (some ⟨bh, fh, none⟩) n1 vc) A (.slice da n2 dc) D ∧ Bk wr V 39 #[.int .i64 h.n.s, .string h.n.t, .int .i64 h.x, .int .i64 (h.m : Int), .int .i64 (h.w : Int)])) (fun s58 _ => r - (intOf s58).toNat)
                        case atStart => exact ⟨0, rfl, Nat.zero_le _, Lib.hid ⟨M5.out, BV.out⟩⟩
                        case round =>
                          clear M5 BV
                          obtain ⟨m, rfl, hmr, hQ⟩ := hrel
                          by_cases hlt : m < r
                          · have HLM := Lib.hid hlt
                            have hj1 : j + 1 + m < n1 := by have := RR.out; omega
                            obtain rfl := AD.out (by omega)
                            have hl2 : j + 1 + m < A.length := by rw [← E1.out]; exact hj1
                            obtain ⟨h2, hh⟩ : ∃ h2, h2 = A[j + 1 + m] := ⟨_, rfl⟩
                            obtain ⟨bh2, fh2, eh, rh⟩ := (show Rk wr (fun _ => True) 39 5 aC (.slice (some ⟨bh, fh, none⟩) n1 vc) A from hQ.out.1.a).cells_at (j := j + 1 + m) hl2
                            obtain ⟨rfl, rfl⟩ : bh = bh2 ∧ fh = fh2 := by simpa using eh
                            rw [← hh, Nat.add_mul (j + 1) m 5, ← Nat.add_assoc] at rh
                            have RG := Lib.hid rh
                            have PP := Lib.hid (show h.n = h2.n → h.m ≠ 0 → h2.m ≠ 0 → cpN h.m h2.m = true from by rw [hh]; exact PJ.out m hl2)
                            have I1 := Lib.hid (all_in BT.out AA.out MEM.out)
                            have I2 := Lib.hid (all_in BT.out AA.out (show h2 ∈ A from by rw [hh]; exact List.getElem_mem _))
                            clear rh hh eh
                            go_upto_region 19 with (first | (refine load_ln rfl _ rfl bh (fh + (j + 1) * 5 + m * 5) h2 rfl RG.out ?_))
                            obtain ⟨V2, hV⟩ : ∃ V2, V2 = wr.heap.size := ⟨_, rfl⟩
                            have BV2 := Lib.hid (show Bk (wr.alloc (.cells #[.int .i64 h2.n.s, .string h2.n.t, .int .i64 h2.x, .int .i64 (h2.m : Int), .int .i64 (h2.w : Int)] 39)) V2 39 #[.int .i64 h2.n.s, .string h2.n.t, .int .i64 h2.x, .int .i64 (h2.m : Int), .int .i64 (h2.w : Int)] from by rw [hV]; exact Bk.new wr _ _)
                            have M6 := Lib.hid (hQ.out.1.kept ((Below.refl wr.heap.size wr).alloc (Nat.le_refl _) (.cells #[.int .i64 h2.n.s, .string h2.n.t, .int .i64 h2.x, .int .i64 (h2.m : Int), .int .i64 (h2.w : Int)] 39)))
                            have BV := Lib.hid (hQ.out.2.kept ((Below.refl wr.heap.size wr).alloc (Nat.le_refl _) (.cells #[.int .i64 h2.n.s, .string h2.n.t, .int .i64 h2.x, .int .i64 (h2.m : Int), .int .i64 (h2.w : Int)] 39)))
                            rw [← hV]
                            clear hQ hV RG
                            generalize wr.alloc (.cells #[.int .i64 h2.n.s, .string h2.n.t, .int .i64 h2.x, .int .i64 (h2.m : Int), .int .i64 (h2.w : Int)] 39) = w9 at *
                            have x0 : w9.cell? ⟨V, 0, none⟩ = some (.int .i64 h.n.s) := BV.out.cell 0
                            have x1 : w9.cell? ⟨V, 1, none⟩ = some (.string h.n.t) := BV.out.cell 1
                            have x3 : w9.cell? ⟨V, 3, none⟩ = some (.int .i64 (h.m : Int)) := BV.out.cell 3
                            have y0 : w9.cell? ⟨V2, 0, none⟩ = some (.int .i64 h2.n.s) := BV2.out.cell 0
                            have y1 : w9.cell? ⟨V2, 1, none⟩ = some (.string h2.n.t) := BV2.out.cell 1
                            have y3 : w9.cell? ⟨V2, 3, none⟩ = some (.int .i64 (h2.m : Int)) := BV2.out.cell 3
                            have NQ := Lib.hid (name_eql h.n h2.n w9)
                            have CC := Lib.hid (comp_any (h.m : Int) (h2.m : Int) w9 (TB.out.below M6.out.l.kp))
                            have CE := Lib.hid (cpN_eq I1.out.2.1 I2.out.2.1)
                            obtain ⟨g1, hg1⟩ : ∃ g, g = decide (h.n = h2.n) := ⟨_, rfl⟩
                            have G1 := Lib.hid hg1
                            rw [← hg1] at NQ
                            clear hg1
                            obtain ⟨z1, hz1⟩ : ∃ z : Int, z = (h.m : Int) := ⟨_, rfl⟩
                            obtain ⟨z2, hz2⟩ : ∃ z : Int, z = (h2.m : Int) := ⟨_, rfl⟩
                            have Z1 := Lib.hid hz1
                            have Z2 := Lib.hid hz2
                            rw [← hz1] at x3 CC CE
                            rw [← hz2] at y3 CC CE
                            clear hz1 hz2
                            cases g1 with
                            | false =>
                              clear CC CE
                              as_aux_lemma =>
                                go_wp2_with (first | (refine wp_cmpT rfl .eql 27 _ name_guard _ _ rfl _ _ _ rfl rfl NQ.out ?_) | fail)
                                go_roundw
                                case rel => exact ⟨m + 1, by go_num, by have := HLM.out; omega, Lib.hid ⟨M6.out, BV.out⟩⟩
                                case measure => have := HLM.out; simp [intOf]; omega
                            | true =>
                              by_cases e2 : z1 = 0
                              · have e2' : (z1 != 0) = false := by simp [e2]
                                clear CC CE
                                as_aux_lemma =>
                                  go_wp2_with (first | (refine wp_cmpT rfl .eql 27 _ name_guard _ _ rfl _ _ _ rfl rfl NQ.out ?_) | fail)
                                  go_roundw
                                  case rel => exact ⟨m + 1, by go_num, by have := HLM.out; omega, Lib.hid ⟨M6.out, BV.out⟩⟩
                                  case measure => have := HLM.out; simp [intOf]; omega
                              · have e2' : (z1 != 0) = true := by simp [e2]
                                by_cases e3 : z2 = 0
                                · have e3' : (z2 != 0) = false := by simp [e3]
                                  clear CC CE
                                  as_aux_lemma =>
                                    go_wp2_with (first | (refine wp_cmpT rfl .eql 27 _ name_guard _ _ rfl _ _ _ rfl rfl NQ.out ?_) | fail)
                                    go_roundw
                                    case rel => exact ⟨m + 1, by go_num, by have := HLM.out; omega, Lib.hid ⟨M6.out, BV.out⟩⟩
                                    case measure => have := HLM.out; simp [intOf]; omega
                                · have e3' : (z2 != 0) = true := by simp [e3]
                                  have e4 : Md.comp z1 z2 = true := by
                                    rw [← CE.out]
                                    exact PP.out (of_decide_eq_true G1.out.symm) (by have := Z1.out; omega) (by have := Z2.out; omega)
                                  rw [e4] at CC
                                  clear CE e4
                                  as_aux_lemma =>
                                    go_wp2_with (first | (refine wp_cmpT rfl .eql 27 _ name_guard _ _ rfl _ _ _ rfl rfl NQ.out ?_) | fail)
                                    refine CC.out.mono ?_
                                    rintro e w10 ⟨rfl, hb⟩
                                    have M7 := Lib.hid (M6.out.kept hb)
                                    have BV3 := Lib.hid (BV.out.kept hb)
                                    clear CC M6 BV BV2 hb x0 x1 x3 y0 y1 y3 NQ
                                    go_wp2
                                    go_roundw
                                    case rel => exact ⟨m + 1, by go_num, by have := HLM.out; omega, Lib.hid ⟨M7.out, BV3.out⟩⟩
                                    case measure => have := HLM.out; simp [intOf]; omega
                          · obtain rfl : r = m := by omega
                            have M6 := Lib.hid hQ.out.1
                            have BV := Lib.hid hQ.out.2
                            clear hQ hlt
                            have x4 : wr.cell? ⟨V, 4, none⟩ = some (.int .i64 (h.w : Int)) := BV.out.cell 4
                            obtain ⟨z1, hz1⟩ : ∃ z : Int, z = (h.w : Int) := ⟨_, rfl⟩
                            have Z1 := Lib.hid hz1
                            rw [← hz1] at x4
                            clear hz1
                            by_cases e2 : z1 = 0
                            · have e2' : (z1 == 0) = true := by simp [e2]
                              as_aux_lemma =>
                                go_wp2
                                go_roundw
                                case rel => exact ⟨j + 1, by go_num, by have := HLJ.out; omega, M6⟩
                                case measure => have := HLJ.out; simp [intOf]; omega
                            · have e2' : (z1 == 0) = false := by simp [e2]
                              have WT := Lib.hid ((all_mem OK.out AA.out MEM.out).2 (by have := Z1.out; omega))
                              have FD := Lib.hid (show D.any (fun p => p.1 == h.x) = true from by
                                obtain ⟨n, y, hy, _⟩ := Tbl.cause OK.out DD.out WT.out
                                rw [List.any_eq_true]
                                exact ⟨_, hy, by simp⟩)
                              have IX := Lib.hid (all_in BT.out AA.out MEM.out).1
                              as_aux_lemma =>
                                go_wp2_with fail
                                clear x4 e2 e2'
                                go_loopw [12, 91] (fun s12 s91 wr => ∃ m : Nat, s91 = .int .i64 (m : Int) ∧ m ≤ n2 ∧ s12 = .bool ((D.take m).any (fun p => p.1 == h.x)) ∧ Hid (TG w3 wr t (i + 1) T2 (.slice (some ⟨bh, fh, none⟩) n1 vc) A (.slice da n2 dc) D ∧ Bk wr V 39 #[.int .i64 h.n.s, .string h.n.t, .int .i64 h.x, .int .i64 (h.m : Int), .int .i64 (h.w : Int)])) (fun s12 s91 _ => n2 - (intOf s91).toNat)
                                case atStart => exact ⟨0, rfl, Nat.zero_le _, rfl, Lib.hid ⟨M6.out, BV.out⟩⟩
                                case round =>
                                  clear M6 BV
                                  obtain ⟨m, rfl, hmr, rfl, hQ⟩ := hrel
                                  obtain ⟨f, hf⟩ : ∃ f, f = (D.take m).any (fun p => p.1 == h.x) := ⟨_, rfl⟩
                                  have FF := Lib.hid hf
                                  rw [← hf]
                                  clear hf
                                  by_cases hlt : m < n2
                                  · have HLM := Lib.hid hlt
                                    have hl2 : m < D.length := by rw [← E2.out]; exact hlt
                                    obtain ⟨p, hp⟩ : ∃ p, p = D[m] := ⟨_, rfl⟩
                                    obtain ⟨bp, fp, ep, rp⟩ := (show Rk wr (fun _ => True) 41 2 pC (.slice da n2 dc) D from hQ.out.1.b).cells_at (j := m) hl2
                                    rw [← hp] at rp
                                    have RG := Lib.hid rp
                                    have TK := Lib.hid (show (D.take (m + 1)).any (fun p => p.1 == h.x) = (f || p.1 == h.x) from by rw [List.take_succ_eq_append_getElem hl2, ← hp, List.any_append, FF.out]; simp)
                                    subst ep
                                    clear rp hp
                                    go_upto_region 27 with (first | (refine load_pr rfl _ rfl bp (fp + m * 2) p rfl RG.out ?_))
                                    obtain ⟨V2, hV⟩ : ∃ V2, V2 = wr.heap.size := ⟨_, rfl⟩
                                    have BV2 := Lib.hid (show Bk (wr.alloc (.cells #[.int .i64 p.1, .int .i64 p.2] 41)) V2 41 #[.int .i64 p.1, .int .i64 p.2] from by rw [hV]; exact Bk.new wr _ _)
                                    have M6 := Lib.hid (hQ.out.1.kept ((Below.refl wr.heap.size wr).alloc (Nat.le_refl _) (.cells #[.int .i64 p.1, .int .i64 p.2] 41)))
                                    have BV := Lib.hid (hQ.out.2.kept ((Below.refl wr.heap.size wr).alloc (Nat.le_refl _) (.cells #[.int .i64 p.1, .int .i64 p.2] 41)))
                                    rw [← hV]
                                    clear hQ hV RG
                                    generalize wr.alloc (.cells #[.int .i64 p.1, .int .i64 p.2] 41) = w9 at *
                                    have x2 : w9.cell? ⟨V, 2, none⟩ = some (.int .i64 h.x) := BV.out.cell 2
                                    have y0 : w9.cell? ⟨V2, 0, none⟩ = some (.int .i64 p.1) := BV2.out.cell 0
                                    cases f with
                                    | true =>
                                      as_aux_lemma =>
                                        go_wp2
                                        go_roundw
                                        case rel => exact ⟨m + 1, by go_num, by have := HLM.out; omega, by rw [TK.out]; rfl, Lib.hid ⟨M6.out, BV.out⟩⟩
                                        case measure => have := HLM.out; simp [intOf]; omega
                                    | false =>
                                      obtain ⟨g, hg⟩ : ∃ g, g = (p.1 == h.x) := ⟨_, rfl⟩
                                      have GG := Lib.hid hg
                                      as_aux_lemma =>
                                        go_wp2_with fail
                                        go_roundw
                                        case rel => exact ⟨m + 1, by go_num, by have := HLM.out; omega, by rw [TK.out]; rfl, Lib.hid ⟨M6.out, BV.out⟩⟩
                                        case measure => have := HLM.out; simp [intOf]; omega
                                  · obtain rfl : n2 = m := by omega
                                    obtain rfl : f = true := by
                                      have h := FF.out
                                      rw [E2.out, List.take_length] at h
                                      rw [h]; exact FD.out
                                    have M6 := Lib.hid hQ.out.1
                                    have BV := Lib.hid hQ.out.2
                                    clear hQ hlt
                                    have x2 : wr.cell? ⟨V, 2, none⟩ = some (.int .i64 h.x) := BV.out.cell 2
                                    have CW := Lib.hid (l1_wait M6.out.l h.x IX.out)
                                    rw [WT.out] at CW
                                    as_aux_lemma =>
                                      go_wp2_with fail
                                      refine CW.out.mono ?_
                                      rintro e w10 ⟨rfl, hb⟩
                                      have M7 := Lib.hid (M6.out.kept hb)
                                      clear CW M6 BV hb x2
                                      go_wp2
                                      go_roundw
                                      case rel => exact ⟨j + 1, by go_num, by have := HLJ.out; omega, M7⟩
                                      case measure => have := HLJ.out; simp [intOf]; omega
                      · obtain rfl : n1 = j := by omega
                        have M9 := Lib.hid hJ.out.l
                        clear hJ hlt
                        go_wp2
                        go_roundw
                        case rel => exact ⟨i + 1, _, by go_num, by have := HLT.out; omega, by omega, M9⟩
                        case measure => have := HLT.out; simp [intOf]; omega
      · obtain rfl : N = i := by omega
        have BE := Lib.hid (below_then B.out hI.out.kp B.out.size)
        clear hI hlt
        go_wp2
        go_ret
        exact ⟨rfl, BE.out⟩
end Go.Proofs.YtnpnpkaklamboaaDoor
