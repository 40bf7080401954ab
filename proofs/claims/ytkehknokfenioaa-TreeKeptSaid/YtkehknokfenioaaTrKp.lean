/- Layer 16: TreeKept. -/
import Derived.Test.YtkehknokfenioaaTrLaw
set_option linter.unusedVariables false
set_option linter.unusedSimpArgs false
namespace Go.Proofs.Ytkehknokfenioaa
open Go.RowKit Go.Maps

theorem step_keeps {R R2 : List (ByteArray × Ce)} {k key : ByteArray} {u : Ud} {c : Ce} (h : Step16 R [key] k u R2) (hk : ¬ k = key) (hc : (key, c) ∈ R) : (key, c) ∈ R2 := by
  rcases h with ⟨-, rfl⟩ | ⟨c0, c1, -, -, -, -, -, -, h⟩
  · exact hc
  · rcases h _ hc (fun e => hk e.symm) with e | ⟨-, e⟩
    · exact e
    · exact absurd List.mem_cons_self e
def kpt : ByteArray := ⟨#[107, 101, 112, 116]⟩
set_option maxRecDepth 100000 in
set_option maxHeartbeats 16000000 in
theorem walk_TreeKept (v : Value) (cl : List Kl) (key : ByteArray) (w : World) (h : KlsIn w v cl) {hs : Prop} (hw : hs) :
    Calls Try.prog 5 #[v, .string key] w fun e w' => e = .returned (.bool true) ∧ Below w.heap.size w w' := by
  have CIN := Lib.hid h
  have LM := Lib.hid h.len
  have CA := Lib.hid (awake16 w)
  obtain ⟨a, c, rfl, -⟩ := h.at_
  obtain ⟨len, hlen⟩ : ∃ len, len = cl.length := ⟨_, rfl⟩
  have HLN := Lib.hid hlen
  rw [← hlen] at CIN LM ⊢
  clear h hlen hw
  go_enter Try.func5, Try.ntmps5
  go_wp2_with fail
  refine CA.out.mono ?_
  rintro e w1 ⟨rfl, hb⟩
  have B1 := Lib.hid hb
  have CI1 := Lib.hid (CIN.out.kept hb)
  clear hb CA CIN
  by_cases c150 : (150 : Int) < (len : Int)
  · --@aux
      go_wp2
      go_ret
      exact ⟨rfl, B1.out⟩
  have LL := Lib.hid (show len ≤ 150 by omega)
  have c150n : ¬ 150 < len := by omega
  have CW := Lib.hid (wrong_any key w1)
  by_cases hk : ¬ keyOk key
  · rw [if_neg hk] at CW
    clear hk
    as_aux_lemma =>
        go_wp2_with fail
        refine CW.out.mono ?_
        rintro e w2 ⟨rfl, rfl⟩
        go_wp2
        go_ret
        exact ⟨rfl, B1.out⟩
  have hk := Decidable.not_not.1 hk
  rw [if_pos hk] at CW
  have KO := Lib.hid hk
  clear hk
  as_aux_lemma =>
      go_wp2_with fail
      refine CW.out.mono ?_
      rintro e w1' ⟨rfl, rfl⟩
      have CV := Lib.hid (volume_any 150 (by decide) (by decide) w1')
      rw [show ((150 : Nat) : Int) = 150 from rfl] at CV
      clear CW
      go_wp2_with fail
      refine CV.out.mono ?_
      clear c150 c150n
      rintro e w2 ⟨g, b, gs, r, pg, rfl, hs, ht, hb⟩
      have NEG := Lib.hid hs.gs_ne
      have BB := Lib.hid (show w1'.heap.size ≤ b ∧ w1'.heap.size ≤ r from ⟨hs.b_ge, hs.r_ge⟩)
      have B2 := Lib.hid hb
      have C1 := Lib.hid (tl_put hs (Nat.le_refl _) ht (by decide) (fun x hx => by cases hx) (by decide) (by decide) key kpt KO.out (by decide) (fun c hc => by cases hc))
      clear hs ht hb CV
      obtain ⟨u1, hu1⟩ : ∃ u, u = udK 1 key czero := ⟨_, rfl⟩
      rw [← hu1] at C1
      obtain ⟨c1, hc1⟩ : ∃ c : Ce, c = ⟨1, dat key kpt⟩ := ⟨_, rfl⟩
      have CC := Lib.hid (show c1.st = 1 ∧ leafCellOk c1 ∧ c1.key = key ∧ c1.rst = kpt by
        have := leaf_cell_ok (v := kpt) KO.out (by decide) (.inl rfl : (1 : Int) = 1 ∨ (1 : Int) = 2)
        rw [hc1]; exact ⟨rfl, this⟩)
      rw [← hc1] at C1
      clear hu1 hc1
      as_aux_lemma =>
          go_wp2_with fail
          refine C1.out.mono ?_
          rintro e w3 ⟨rfl, pg3, H3, ids3, R3, hs, ht, hm, -, hg⟩
          have B3 := Lib.hid (bl_grow B2.out hg (fun k hk => by cases hk; exact BB.out.1) B2.out.size)
          have S4 := Lib.hid (hs.alloc (.cells u1.cs 34)); have T3 := Lib.hid ht
          have HA := Lib.hid ((hm (key, c1)).2 (.inl rfl))
          have B4 := Lib.hid (B3.out.alloc B3.out.size (.cells u1.cs 34))
          clear hs ht hm hg C1 B2 B3
          as_aux_lemma =>
              go_wp2_with (refine store_ud_new rfl _ _ rfl u1 rfl rfl ?_; generalize w3.alloc (.cells u1.cs 34) = w4 at *)
              have C2 := Lib.hid (tl_cut S4.out (Nat.le_refl _) T3.out (by decide) key KO.out HA.out CC.out.1)
              obtain ⟨u3, hu3⟩ : ∃ u, u = udK 1 key c1 := ⟨_, rfl⟩
              rw [← hu3] at C2
              refine C2.out.mono ?_
              rintro e w6 ⟨rfl, pg6, R6, hs, ht, hr, hg⟩
              have B6 := Lib.hid (bl_grow B4.out hg (fun k hk => by cases hk; exact BB.out.1) B4.out.size)
              have S7 := Lib.hid (hs.alloc (.cells u3.cs 34)); have T6 := Lib.hid ht
              have HA6 := Lib.hid (show (key, ghostC c1) ∈ R6 from (hr _).2 (.inl rfl))
              have K7 := Lib.hid (Bk.new w6 34 u3.cs)
              have B7 := Lib.hid (B6.out.alloc B6.out.size (.cells u3.cs 34))
              obtain ⟨U, hU⟩ : ∃ U, U = w6.heap.size := ⟨_, rfl⟩
              have UU := Lib.hid (show U ≠ g ∧ U ≠ b ∧ U ≠ gs ∧ U ≠ r from by have := hs.gs_ne; omega)
              rw [← hU] at K7
              have HU3 := Lib.hid hu3
              clear hs ht hr hg hu3 C2 B4 B6 S4 T3
              obtain ⟨cg, hcg⟩ : ∃ c, c = ghostC c1 := ⟨_, rfl⟩
              have CG := Lib.hid (show cg.st = 2 ∧ cg.rst = kpt ∧ backC c1 cg = c1 from by
                rw [hcg]
                exact ⟨rfl, (ghost_ok CC.out.2.1).2.2.trans CC.out.2.2.2, if_neg (by rw [CC.out.1]; decide)⟩)
              rw [← hcg] at HA6
              clear hcg HA
              as_aux_lemma =>
                  go_wp2_with (refine store_ud_new rfl _ _ rfl u3 rfl rfl ?_; rw [← hU]; clear hU; generalize w6.alloc (.cells u3.cs 34) = w7 at *)
                  have CL := Lib.hid (tland_any S7.out B7.out 0)
                  rw [landed_zero] at CL
                  refine CL.out.mono ?_
                  rintro e w8 ⟨rfl, hs, hb, hoth⟩
                  have S8 := Lib.hid hs; have B8 := Lib.hid hb; have K8 := Lib.hid (hoth.bk K7.out UU.out.2.1 UU.out.2.2.2)
                  clear hs hb hoth CL S7 B7 K7
                  as_aux_lemma =>
                      go_wp2_with fail
                      go_loopw [62] (fun i wr => ∃ (k M H : Nat) (pg : Nat → Pg) (ids : List Nat) (R : List (ByteArray × Ce)), k ≤ len ∧ i = .int .i64 k ∧ M ≤ 100 + 40 * k ∧ SV wr w1'.heap.size g b gs r 150 M pg pg ∧ Tl pg 150 H ids R False ∧ (key, cg) ∈ R ∧ Below w1'.heap.size w1' wr ∧ Bk wr U 34 u3.cs) (fun i _ => len - (intOf i).toNat)
                      case atStart => exact ⟨0, _, _, pg6, _, R6, Nat.zero_le _, rfl, by decide, S8.out, T6.out.weak (fun h => h.elim), HA6.out, B8.out, K8.out⟩
                      case round =>
                        clear S8 B8 K8 T6 HA6
                        obtain ⟨k, M, H, pg, ids, R, hk, rfl, hM, hs, ht, hx, hb, hu⟩ := hrel
                        have V := Lib.hid hs; have HT := Lib.hid ht; have BW := Lib.hid hb; have HX := Lib.hid hx; have HM := Lib.hid hM
                        by_cases hlt : k < len
                        · have HLT := Lib.hid hlt
                          have hkb : k < 9223372036854775807 := by have := LL.out; omega
                          have hkc : k < cl.length := by rw [← HLN.out]; exact hlt
                          obtain ⟨cc, hcc⟩ : ∃ cc, cc = cl[k] := ⟨_, rfl⟩
                          have KI := CI1.out.kept hb
                          have OK := Lib.hid (KI.bd _ (List.getElem_mem hkc))
                          obtain ⟨a', c', e1, hat⟩ := KI.at_
                          obtain ⟨b1, off, e2, hb1, hra⟩ := hat (by omega)
                          rw [← HLN.out] at e1
                          obtain ⟨rfl, rfl⟩ : a = some ⟨b1, off, none⟩ ∧ c = c' := by rw [e2] at e1; simpa using e1
                          have RK := Lib.hid (hra k cl[k] (List.getElem?_eq_getElem hkc))
                          rw [← hcc] at OK RK
                          have V1 := Lib.hid (hs.alloc (.cells cc.cs 30))
                          have B1' := Lib.hid (hb.alloc hb.size (.cells cc.cs 30))
                          have U1 := Lib.hid (hu.alloc (.cells cc.cs 30))
                          have K1 := Lib.hid (Bk.new wr 30 cc.cs)
                          have O1 := Lib.hid (OK.out.kept ((Below.refl wr.heap.size wr).alloc (Nat.le_refl _) (.cells cc.cs 30)))
                          clear e1 hat e2 hb1 hra hcc hkc KI hs ht hb hx hu hM V BW
                          as_aux_lemma =>
                              go_upto_region 17 with (first | (refine load_kl_off rfl _ rfl b1 off k cc rfl RK.out ?_) | (refine store_kl_new rfl _ _ rfl cc OK.out.sl rfl rfl ?_))
                              generalize wr.alloc (.cells cc.cs 30) = w9 at *
                              clear OK RK
                              obtain ⟨G, hG⟩ : ∃ G, G = wr.heap.size := ⟨_, rfl⟩
                              rw [← hG] at K1 ⊢
                              clear hG
                              have x1 : w9.cell? ⟨G, 1, none⟩ = some (.string cc.key) := K1.out.cell 1
                              by_cases hkk : cc.key = key
                              · rw [hkk] at x1
                                have e9 : (key.toList == key.toList) = true := by simp
                                clear hkk K1 O1
                                as_aux_lemma =>
                                    go_wp2
                                    go_roundw
                                    case rel => exact ⟨k + 1, M, H, pg, ids, R, by have := HLT.out; omega, by go_num, by have := HM.out; omega, V1.out, HT.out, HX.out, B1'.out, U1.out⟩
                                    case measure => have := HLT.out; simp [intOf]; omega
                              · have e9 : (cc.key.toList == key.toList) = false := toL_ne hkk
                                have NK := Lib.hid hkk
                                have V2 := Lib.hid (V1.out.alloc (.cells #[.string key] 9))
                                have B2' := Lib.hid (B1'.out.alloc B1'.out.size (.cells #[.string key] 9))
                                have U2 := Lib.hid (U1.out.alloc (.cells #[.string key] 9))
                                have CD := Lib.hid (tdo_any V2.out (Nat.le_refl _) HT.out (by have := HM.out; have := HLT.out; have := LL.out; unfold maxLen; omega) cc O1.out.key O1.out.val _ [key] (srow_one w9 key))
                                clear hkk V1 B1' U1
                                as_aux_lemma =>
                                    go_wp2_with (first | (refine load_kl rfl _ rfl G cc rfl K1.out ?_) | (refine slice1_tx rfl _ rfl key rfl ?_; generalize w9.alloc (.cells #[.string key] 9) = w10 at *))
                                    refine CD.out.mono ?_
                                    rintro e w11 ⟨u, er, rfl, hm⟩
                                    obtain ⟨pg', hs, hg, -, H2, ids2, R2, ht2, hst⟩ := hm.after HT.out
                                    have V3 := Lib.hid (hs.alloc (.cells u.cs 34)); have T2 := Lib.hid (ht2.weak (fun h => h.elim : False → _))
                                    have B3' := Lib.hid ((bl_grow B2'.out hg (fun k hk => by cases hk; exact BB.out.1) B2'.out.size).alloc (Nat.le_trans B2'.out.size hg.size) (.cells u.cs 34))
                                    have U3 := Lib.hid ((U2.out.grown hg (fun e => UU.out.2.1 (by injection e))).alloc (.cells u.cs 34))
                                    have HX2 := Lib.hid (step_keeps hst NK.out HX.out)
                                    clear hm hs hg ht2 hst V2 B2' U2 CD K1 O1 x1 e9 HX HT NK
                                    as_aux_lemma =>
                                        go_wp2_with (refine store_ud_new rfl _ _ rfl u rfl rfl ?_; generalize w11.alloc (.cells u.cs 34) = w12 at *)
                                        refine (tland_any V3.out B3'.out er).mono ?_
                                        rintro e w13 ⟨rfl, hs, hb, hoth⟩
                                        have U4 := Lib.hid (hoth.bk U3.out UU.out.2.1 UU.out.2.2.2)
                                        have CS := Lib.hid (tl_seek hs (Nat.le_refl _) T2.out key HX2.out)
                                        rw [CG.out.1, CG.out.2.1] at CS
                                        have V4 := Lib.hid hs; have B4 := Lib.hid hb
                                        generalize landed er pg pg' = pgl at *
                                        clear hs hb hoth V3 B3' U3
                                        as_aux_lemma =>
                                            go_wp2_with fail
                                            refine CS.out.mono ?_
                                            rintro e w14 ⟨rfl, hb⟩
                                            have V5 := Lib.hid (V4.out.kept hb); have B5 := Lib.hid (below_then B4.out hb B4.out.size); have U5 := Lib.hid (U4.out.kept hb)
                                            have e9 : (key.toList == key.toList) = true := by simp
                                            clear hb CS V4 B4 U4
                                            unfold kpt
                                            go_wp2
                                            go_roundw
                                            case rel => exact ⟨k + 1, M + 40, H2, pgl, ids2, R2, by have := HLT.out; omega, by go_num, by have := HM.out; omega, V5.out, T2.out, HX2.out, B5.out, U5.out⟩
                                            case measure => have := HLT.out; simp [intOf]; omega
                        · obtain rfl : k = len := by omega
                          have CR := Lib.hid (tl_res hs (Nat.le_refl _) ht (by have := HM.out; have := LL.out; unfold maxLen; omega) key KO.out c1 (fun _ => ⟨CC.out.2.1, CC.out.2.2.1⟩) hx)
                          rw [← HU3.out, CG.out.2.2] at CR
                          have KU := Lib.hid hu
                          clear hlt hk hs ht hb hx hu hM V HT HX
                          as_aux_lemma =>
                              go_wp2_with (refine load_ud rfl _ rfl U u3 rfl KU.out ?_)
                              refine CR.out.mono ?_
                              rintro e w9 ⟨rfl, pg9, R9, hs, ht, hr, hg⟩
                              have B9 := Lib.hid (bl_grow BW.out hg (fun k hk => by cases hk; exact BB.out.1) BW.out.size)
                              have CG2 := Lib.hid (tl_get hs (Nat.le_refl _) ht key KO.out ((hr _).2 (.inl rfl)))
                              clear hs ht hr hg CR KU BW
                              as_aux_lemma =>
                                  go_wp2_with fail
                                  refine CG2.out.mono ?_
                                  rintro e w10 ⟨(⟨-, rfl⟩ | ⟨h, -⟩), hb⟩
                                  · have B10 := Lib.hid (below_then B1.out (below_then B9.out hb B9.out.size) B1.out.size)
                                    rw [CC.out.2.2.2]
                                    clear hb CG2 B9 CC HU3 CG
                                    unfold kpt
                                    go_wp2
                                    go_ret
                                    exact ⟨rfl, B10.out⟩
                                  · exact absurd CC.out.1 h
end Go.Proofs.Ytkehknokfenioaa
