/- AuditOrder. -/
import Derived.Test.YtelbioooggnbiaaAuY
set_option linter.unusedVariables false
set_option linter.unusedSimpArgs false
namespace Go.Proofs.Ytelbioooggnbiaa
open Go.RowKit Go.Maps Go.Shelf Go.Deep

theorem spoil_s (kind : Int) (p : Pg) (i : Nat) : (spoil kind p i).s = p.s := by
  unfold spoil
  split
  · rfl
  · split <;> rfl
theorem spoil_ok (kind : Int) {p : Pg} (h : p.ok) (i : Nat) (hi : i < 1024) : (spoil kind p i).ok := by
  have hh := h.1
  unfold Pg.head at hh
  unfold spoil
  split
  · refine ⟨?_, h.2⟩
    unfold Pg.head
    dsimp only
    omega
  · split
    · refine ⟨?_, h.2⟩
      unfold Pg.head
      dsimp only
      omega
    · refine ⟨h.1, fun q hq => ?_⟩
      show (if q = 1 then p.c 0 else if q = 0 then p.c 1 else p.c q).ok
      split
      · exact h.2 0 (by omega)
      · split
        · exact h.2 1 (by omega)
        · exact h.2 q hq
theorem tmod_bd (x : Int) {m : Nat} (hm : 0 < m) : -(m : Int) < x.tmod m ∧ x.tmod m < m := by
  have h1 := Int.tmod_lt_of_pos x (show (0 : Int) < m by omega)
  have h2 := Int.lt_tmod_of_pos x (show (0 : Int) < m by omega)
  omega
/-- x % m + m, and that % m: without a loss. -/
theorem idx_bd (x : Int) {m : Nat} (hm : 0 < m) : 0 ≤ (x.tmod m + m).tmod m ∧ (x.tmod m + m).tmod m < m := by
  have h := tmod_bd x hm
  rw [Int.tmod_eq_emod_of_nonneg (by omega)]
  exact ⟨Int.emod_nonneg _ (by omega), Int.emod_lt_of_pos _ (by omega)⟩
theorem Bk.l3 {w : World} {g : Nat} {p : Pg} (h : Bk w g 50 p.cs) (x : Int) : Bk (w.setCell ⟨g, 3, none⟩ (.int .i64 x)) g 50 ({ p with n := x } : Pg).cs := h.set 3 (.int .i64 x)
theorem Bk.l1 {w : World} {g : Nat} {p : Pg} (h : Bk w g 50 p.cs) (x : Int) : Bk (w.setCell ⟨g, 1, none⟩ (.int .i64 x)) g 50 ({ p with l := x } : Pg).cs := h.set 1 (.int .i64 x)
theorem ao_bad {w0 w : World} {g b gs r M : Nat} {und pg : Nat → Pg} {ow : Nat → Option Int} {H : Nat} {lf ids : List Nat} {R : List (ByteArray × Ce)} {kind : Int} {i : Nat} (hs : SV w w0.heap.size g b gs r 80 M und (upd pg i (spoil kind (pg i) i))) (h : Ao pg ow H lf ids R) (hH : H ≠ 0) (hil : i ∈ lf ∧ (pg i).l = 0 ∧ i ∈ ids) :
    Calls Try.prog 7 #[.pointer (some ⟨g, 0, none⟩)] w fun e w' => ∃ er : Int, e = .returned (.int .i64 er) ∧ er ≠ 0 ∧ Below w.heap.size w w' := by
  obtain ⟨h1, h2, h3⟩ := hil
  have p := h.tv.ix.pgs i h3
  refine (check_vol hs (fun j hj => ?_) (h.tv.vol.relay i p.two (spoil kind (pg i) i) (by rw [spoil_s, p.s]; exact p.ow)) (Nat.le_refl _)).mono ?_
  · unfold upd
    split
    · exact spoil_ok kind p.ok i (by have := p.lt; omega)
    · exact h.ok j hj
  · rintro e w' ⟨er, rfl, he, -, hb⟩
    exact ⟨er, rfl, fun e => h.spoilt hH h1 h2 h3 kind (he.1 e), hb⟩
set_option maxRecDepth 100000 in
set_option maxHeartbeats 16000000 in
theorem walk_AuditOrder (v : Value) (ks : List ByteArray) (which kind : Int) (w : World) (h : KsIn w v ks) (hw1 : -9223372036854775808 ≤ which) (hw2 : which ≤ 9223372036854775807) (hk1 : -9223372036854775808 ≤ kind) (hk2 : kind ≤ 9223372036854775807) :
    Calls Try.prog 4 #[v, .int .i64 which, .int .i64 kind] w fun e w' => e = .returned (.bool true) ∧ Below w.heap.size w w' := by
  have CIN := Lib.hid h
  have CA := Lib.hid (awake22 w)
  have LM := Lib.hid h.1.1
  have WN := Lib.hid (And.intro hw1 hw2)
  have KN := Lib.hid (And.intro hk1 hk2)
  obtain ⟨-, a, c, rfl, -⟩ := h.1
  obtain ⟨len, hlen⟩ : ∃ len, len = ks.length := ⟨_, rfl⟩
  have HLN := Lib.hid hlen
  rw [← hlen] at CIN LM ⊢
  clear h hlen hw1 hw2 hk1 hk2
  go_enter Try.func4, Try.ntmps4
  go_wp2_with fail
  refine CA.out.mono ?_
  rintro e w1 ⟨rfl, hb⟩
  have B1 := Lib.hid hb
  have CI1 := Lib.hid (CIN.out.kept hb)
  clear hb CA CIN
  by_cases c100 : (100 : Int) < (len : Int)
  · --@aux
    go_wp2
    go_ret
    exact ⟨rfl, B1.out⟩
  have LL := Lib.hid (show len ≤ 100 by omega)
  have c100n : ¬ 100 < len := by omega
  have CV := volume22 80 w1 (by omega) (by omega)
  rw [show ((80 : Nat) : Int) = 80 from rfl] at CV
  have CV := Lib.hid CV
  as_aux_lemma =>
    go_wp2_with fail
    refine CV.out.mono ?_
    rintro e w2 ⟨g, b, gs, r, rfl, hs, hb⟩
    have P2 := Lib.hid (show AoP w1 w2 g b gs r 0 from ⟨⟨8, _, _, _, _, _, _, _, hs, by unfold landed; rw [if_pos rfl]; exact ao_new⟩, hb⟩)
    clear hs hb CV
    have CL := Lib.hid (ao_land P2.out)
    as_aux_lemma =>
      go_wp2_with fail
      refine CL.out.mono ?_
      rintro e w3 ⟨rfl, hA⟩
      have A3 := Lib.hid hA
      clear hA CL P2
      as_aux_lemma =>
        go_wp2_with fail
        go_loopw [42] (fun s42 wr => ∃ j : Nat, s42 = .int .i64 (j : Int) ∧ j ≤ len ∧ Hid (AoS w1 wr g b gs r)) (fun s42 _ => len - (intOf s42).toNat)
        case atStart => exact ⟨0, rfl, Nat.zero_le _, Lib.hid A3.out⟩
        case round =>
          clear A3
          obtain ⟨j, rfl, hjn, hI⟩ := hrel
          have AI := Lib.hid hI.out
          clear hI
          by_cases hlt : j < len
          · have HLT := Lib.hid hlt
            obtain ⟨⟨-, a', c', e1, hat⟩, hsz⟩ := CI1.out.kept AI.out.kp
            obtain ⟨b1, off, e2, hb1, hra⟩ := hat.resolve_left (fun e => by rw [HLN.out, e] at hlt; exact absurd hlt (Nat.not_lt_zero j))
            rw [← HLN.out] at e1
            obtain ⟨rfl, rfl⟩ : a = some ⟨b1, off, none⟩ ∧ c = c' := by rw [e2] at e1; simpa using e1
            have x0 := hra j (by rw [← HLN.out]; exact hlt)
            have hkz := hsz (ks.getD j ByteArray.empty) (by rw [List.getD_eq_getElem?_getD, List.getElem?_eq_getElem (by rw [← HLN.out]; exact hlt)]; exact List.getElem_mem _)
            obtain ⟨ky, hky⟩ : ∃ ky, ky = ks.getD j ByteArray.empty := ⟨_, rfl⟩
            rw [← hky] at x0 hkz
            have CP := Lib.hid (ao_put AI.out ky hkz)
            have hkb : j < 9223372036854775807 := by have := LL.out; omega
            clear hat hsz e1 e2 hra hb1 hky hkz
            as_aux_lemma =>
              go_wp2_with fail
              refine CP.out.mono ?_
              rintro e w4 ⟨u, er, rfl, hA⟩
              have P4 := Lib.hid (hA.alloc (.cells u.cs 43))
              clear hA CP AI x0
              as_aux_lemma =>
                go_wp2_with (refine store_ud_new rfl _ _ rfl u rfl rfl ?_; generalize w4.alloc (.cells u.cs 43) = w5 at *)
                refine (ao_land P4.out).mono ?_
                rintro e w6 ⟨rfl, hA⟩
                have A6 := Lib.hid hA
                clear hA P4
                go_wp2
                go_roundw
                case rel => exact ⟨j + 1, by go_num, by have := HLT.out; omega, Lib.hid A6.out⟩
                case measure => have := HLT.out; simp [intOf]; omega
          · obtain rfl : len = j := by omega
            clear hlt hjn
            have CC := Lib.hid (ao_check AI.out)
            as_aux_lemma =>
              go_wp2_with fail
              refine CC.out.mono ?_
              rintro e w4 ⟨rfl, hb⟩
              have A4 := Lib.hid (AI.out.kept hb)
              clear hb CC AI CI1 HLN LM
              as_aux_lemma =>
                obtain ⟨pg, ow, H, lf, ids, R, hs, hA⟩ := A4.out.ex
                have B4 := Lib.hid A4.out.kp
                have V4 := Lib.hid hs; have AO := Lib.hid hA
                clear hs hA A4
                obtain ⟨U, hU⟩ : ∃ U, U = owL ow 80 := ⟨_, rfl⟩
                have OB := Lib.hid (show ∀ x, x ∈ U → ∃ i : Nat, x = i ∧ i < 80 from fun x hx => by
                  rw [hU] at hx
                  obtain ⟨i, h1, -, h3⟩ := owL_mem.1 hx
                  exact ⟨i, h3, h1⟩)
                have LU := Lib.hid (show U.length ≤ 80 from by
                  rw [hU]
                  unfold owL
                  rw [List.length_map]
                  have a := List.length_filter_le (fun i => (ow i).isSome) (List.range 80)
                  rw [List.length_range] at a
                  exact a)
                have CU := used_vol V4.out (Nat.le_refl _) AO.out.tv.vol
                rw [← hU] at CU
                have CU := Lib.hid CU
                have UE := Lib.hid hU
                clear hU
                go_wp2_with fail
                refine CU.out.mono ?_
                rintro e w5 ⟨v, rfl, hO, hb⟩
                have UU := Lib.hid (show w5.ownsRow w4.heap.size 3 1 v U.length (U.map (Value.int .i64)) from hO)
                have V5 := Lib.hid (V4.out.kept hb)
                have B5 := Lib.hid (below_then B4.out hb B4.out.size)
                clear hO hb CU V4 B4
                obtain ⟨ua, uc, hus⟩ := ow_slice UU.out
                subst hus
                obtain ⟨m, hm⟩ : ∃ m, m = U.length := ⟨_, rfl⟩
                have ME := Lib.hid hm
                have m80 : m ≤ 80 := by rw [hm]; exact LU.out
                rw [← hm] at UU ⊢
                clear hm
                obtain ⟨BL, hBL⟩ : ∃ BL, BL = w5.heap.size := ⟨_, rfl⟩
                have QL := Lib.hid hBL
                obtain ⟨i0, hi, hz0, hz1, hz2⟩ := info_parts Try.info3
                as_aux_lemma =>
                  go_wp2_with fail
                  go_loopw [17, 68] (fun s17 s68 wr => ∃ j : Nat, s68 = .int .i64 (j : Int) ∧ j ≤ m ∧ IntsOwn wr BL s17 ((U.take j).filter (isLf pg)) ∧ Hid (Below BL w5 wr)) (fun _ s68 _ => m - (intOf s68).toNat)
                  case atStart => exact ⟨0, rfl, Nat.zero_le _, World.ownsRow_nil _ _ _ _, Lib.hid (by rw [hBL]; exact Below.refl _ _)⟩
                  case round =>
                    obtain ⟨j, rfl, hjm, hO, hI⟩ := hrel
                    obtain ⟨xa, xc, hxe⟩ := ow_slice hO
                    subst hxe
                    have O6 := Lib.hid hO
                    have B6 := Lib.hid hI.out
                    clear hO hI
                    have HB5 := Lib.hid (show Below w5.heap.size w5 wr from by rw [← QL.out]; exact B6.out)
                    have V6 := Lib.hid (V5.out.kept HB5.out)
                    have U6 := Lib.hid (ow_kept UU.out HB5.out)
                    have BLL := Lib.hid (show BL ≤ wr.heap.size from by rw [QL.out]; exact HB5.out.size)
                    clear hBL
                    by_cases hlt : j < m
                    · have HLT := Lib.hid hlt
                      have hl1 : j < U.length := by rw [← ME.out]; exact hlt
                      obtain ⟨x, hx⟩ : ∃ x, x = U[j] := ⟨_, rfl⟩
                      obtain ⟨ga, gc, hge, hcell⟩ := row_cellA U6.out (i := j) (u := .int .i64 x) (by rw [List.getElem?_map, List.getElem?_eq_getElem hl1, ← hx]; rfl) hlt
                      obtain ⟨rfl, rfl⟩ : ua = some ⟨ga, 0, none⟩ ∧ uc = gc := by
                        injection hge with e1 e2 e3
                        exact ⟨e1, e3⟩
                      obtain ⟨i, rfl, hi80⟩ := OB.out x (by rw [hx]; exact List.getElem_mem _)
                      have TK := Lib.hid (show (U.take (j + 1)).filter (isLf pg) = (U.take j).filter (isLf pg) ++ (if isLf pg (i : Int) then [(i : Int)] else []) from by
                        rw [List.take_add_one, List.getElem?_eq_getElem hl1, List.filter_append, ← hx]
                        show _ ++ List.filter (isLf pg) [(i : Int)] = _
                        rw [List.filter_cons, List.filter_nil])
                      have UL := Lib.hid (show ((U.take j).filter (isLf pg)).length < 1024 from by
                        have h1 := List.length_filter_le (isLf pg) (U.take j)
                        rw [List.length_take] at h1
                        omega)
                      have CG := Lib.hid (sv_get V6.out i hi80)
                      obtain ⟨p, hp⟩ : ∃ p, p = pg i := ⟨_, rfl⟩
                      have FE := Lib.hid (show isLf pg (i : Int) = (decide (p.k = 4) && decide (p.l = 0)) from by unfold isLf; rw [Int.toNat_natCast, hp])
                      rw [← hp] at CG
                      generalize hul : (U.take j).filter (isLf pg) = ul at *
                      clear hx hge hjm V6 U6 hl1 hi80 hp hul
                      as_aux_lemma =>
                        go_wp2_with fail
                        refine CG.out.mono ?_
                        rintro e w6 ⟨rfl, hb⟩
                        have O7 := Lib.hid (show (w6.alloc (.cells p.cs 50)).ownsRow BL 3 1 (.slice xa ul.length xc) ul.length (ul.map (Value.int .i64)) from World.ownsRow.alloc (ow_kept O6.out hb) _)
                        have KP := Lib.hid (Bk.new w6 50 p.cs)
                        have B7 := Lib.hid ((B6.out.trans (hb.mono BLL.out)).alloc (Nat.le_trans BLL.out hb.size) (.cells p.cs 50))
                        obtain ⟨G, hG⟩ : ∃ G, G = w6.heap.size := ⟨_, rfl⟩
                        have GB := Lib.hid (show BL ≤ G ∧ G < (w6.alloc (.cells p.cs 50)).heap.size from by rw [hG]; exact ⟨Nat.le_trans BLL.out hb.size, KP.out.lt⟩)
                        rw [← hG] at KP
                        clear hb CG O6 B6 HB5 BLL hcell
                        as_aux_lemma =>
                          go_upto_region 23 with (refine store_page_new rfl _ _ rfl p rfl rfl ?_; rw [← hG]; clear hG; generalize w6.alloc (.cells p.cs 50) = w7 at *)
                          have c0 : w7.cell? ⟨G, 0, none⟩ = some (.int .i64 p.k) := KP.out.cell 0
                          have c1 : w7.cell? ⟨G, 1, none⟩ = some (.int .i64 p.l) := KP.out.cell 1
                          by_cases hf : p.k = 4 ∧ p.l = 0
                          · have f1 : (p.k == 4) = true := by rw [hf.1]; rfl
                            have f2 : (p.l == 0) = true := by rw [hf.2]; rfl
                            have hk4 := hf.1
                            have hl0 := hf.2
                            have US2 := Lib.hid (show (U.take (j + 1)).filter (isLf pg) = ul ++ [(i : Int)] from by rw [TK.out, FE.out, decide_eq_true hf.1, decide_eq_true hf.2]; rfl)
                            clear hf FE TK
                            as_aux_lemma =>
                              go_wp2_with (at_builtin; refine wpList_append_one _ rfl _ _ 22 rfl BL 3 i0 (.int .i64 0) 1 8 Try.underlying22 hi hz0 hz1 hz2 rfl (.slice xa ul.length xc) ul.length (ul.map (Value.int .i64)) rfl (World.ownsRow.alloc O7.out (.cells #[.int .i64 i] 3)) ⟨w7.heap.size, 0, none⟩ 1 [.int .i64 i] rfl rfl ?qc2 ?qc3 ?qc4 (by omega) ?qc5 ?qc6 ?_)
                              case qc2 =>
                                intro q y hy
                                rw [Addr.add_lit, Nat.zero_add]
                                refine Eq.trans ((Bk.new w7 3 #[.int .i64 i]).cell q) ?_
                                simpa using hy
                              case qc3 => simp [Value.oneCell']
                              case qc4 => have := UL.out; unfold maxLen; omega
                              case qc5 => have := UL.out; omega
                              case qc6 => have := GB.out; simp; omega
                              intro v2 w8 hown hgrow
                              obtain ⟨ya, yc, hye⟩ := ow_slice hown
                              subst hye
                              have O8 := Lib.hid (show IntsOwn w8 BL (.slice ya (ul.length + 1) yc) ((U.take (j + 1)).filter (isLf pg)) by rw [US2.out]; unfold IntsOwn; rw [List.length_append, List.map_append]; exact hown)
                              have B8 := Lib.hid (bl_grow (B7.out.alloc (by have := GB.out; omega) (.cells #[.int .i64 i] 3)) hgrow (fun k hk => (ow_blk O7.out hk).1) (by have := GB.out; simp; omega))
                              clear hown hgrow O7 B7 c0 c1
                              go_wp2
                              go_roundw
                              case rel => exact ⟨j + 1, by go_num, by have := HLT.out; omega, O8.out, Lib.hid B8.out⟩
                              case measure => have := HLT.out; simp [intOf]; omega
                          · have US2 := Lib.hid (show (U.take (j + 1)).filter (isLf pg) = ul from by
                              rw [TK.out, FE.out, if_neg, List.append_nil]
                              intro h
                              rw [Bool.and_eq_true, decide_eq_true_iff, decide_eq_true_iff] at h
                              exact hf h)
                            clear TK FE
                            have O8 := Lib.hid (show IntsOwn w7 BL (.slice xa ul.length xc) ((U.take (j + 1)).filter (isLf pg)) by rw [US2.out]; exact O7.out)
                            clear O7
                            by_cases f1 : p.k = 4
                            · have f1b : (p.k == 4) = true := by rw [f1]; rfl
                              have f2 : ¬ p.l = 0 := fun h => hf ⟨f1, h⟩
                              have f2b : (p.l == 0) = false := beq_eq_false_iff_ne.2 f2
                              clear hf
                              as_aux_lemma =>
                                go_wp2
                                go_roundw
                                case rel => exact ⟨j + 1, by go_num, by have := HLT.out; omega, O8.out, Lib.hid B7.out⟩
                                case measure => have := HLT.out; simp [intOf]; omega
                            · have f1b : (p.k == 4) = false := beq_eq_false_iff_ne.2 f1
                              clear hf
                              as_aux_lemma =>
                                go_wp2
                                go_roundw
                                case rel => exact ⟨j + 1, by go_num, by have := HLT.out; omega, O8.out, Lib.hid B7.out⟩
                                case measure => have := HLT.out; simp [intOf]; omega
                    · obtain rfl : m = j := by omega
                      have LE := Lib.hid (show (U.take m).filter (isLf pg) = lfL pg ow from by rw [ME.out, List.take_length, UE.out]; rfl)
                      obtain ⟨L, hL⟩ : ∃ L, L = lfL pg ow := ⟨_, rfl⟩
                      have LL2 := Lib.hid (show L.length ≤ 80 from by
                        rw [hL, ← LE.out]
                        have h1 := List.length_filter_le (isLf pg) (U.take m)
                        rw [List.length_take] at h1
                        omega)
                      have O9 := Lib.hid (show IntsOwn wr BL (.slice xa ((U.take m).filter (isLf pg)).length xc) L from by rw [hL, ← LE.out]; exact O6.out)
                      have LF := Lib.hid (show ∀ x, x ∈ L → ∃ i : Nat, x = i ∧ i ∈ lf ∧ (pg i).l = 0 ∧ i ∈ ids from fun x hx => AO.out.lf_of (by rw [← hL]; exact hx))
                      have HI := Lib.hid (show 2 ≤ L.length → H ≠ 0 from fun h => AO.out.high (by rw [← hL]; exact h))
                      obtain ⟨nl, hnl⟩ : ∃ nl, nl = ((U.take m).filter (isLf pg)).length := ⟨_, rfl⟩
                      have NL := Lib.hid (show nl = L.length from by rw [hnl, LE.out, ← hL])
                      rw [← hnl] at O9 ⊢
                      have B9 := Lib.hid (below_then B5.out HB5.out B5.out.size)
                      have BF := Lib.hid (below_then B1.out B9.out B1.out.size)
                      clear hlt hjm O6 B6 HB5 U6 UU V5 B5 hL hnl LE UE OB LU ME
                      have nl80 : nl ≤ 80 := by rw [NL.out]; exact LL2.out
                      by_cases h2 : nl < 2
                      · have h2i : (nl : Int) < 2 := by omega
                        as_aux_lemma =>
                          go_wp2
                          go_ret
                          exact ⟨rfl, BF.out⟩
                      have n2 : 2 ≤ nl := by omega
                      have h2i : ¬ (nl : Int) < 2 := by omega
                      obtain ⟨ib0, ib1⟩ := idx_bd which (m := nl) (by omega)
                      obtain ⟨z, hz⟩ : ∃ z : Nat, (z : Int) = (which.tmod nl + nl).tmod nl := ⟨((which.tmod nl + nl).tmod nl).toNat, by omega⟩
                      have hzl : z < nl := by omega
                      have HZL := Lib.hid hzl
                      have EW := Lib.hid (show (wrap64 (which.tmod nl + nl)).tmod nl = (z : Int) from by
                        have tb := tmod_bd which (m := nl) (by omega)
                        rw [IntWalk.wrap64_in (which.tmod ↑nl + ↑nl) (by omega)]
                        exact hz.symm)
                      have hl1 : z < L.length := by rw [← NL.out]; exact hzl
                      obtain ⟨x, hx⟩ : ∃ x, x = L[z] := ⟨_, rfl⟩
                      obtain ⟨ga, gc, hge, hcell⟩ := row_cellA (show wr.ownsRow BL 3 1 (.slice xa nl xc) nl (L.map (Value.int .i64)) from by
                        have := O9.out
                        unfold IntsOwn at this
                        rw [← NL.out] at this
                        exact this) (i := z) (u := .int .i64 x) (by rw [List.getElem?_map, List.getElem?_eq_getElem hl1, ← hx]; rfl) hzl
                      obtain ⟨rfl, rfl⟩ : xa = some ⟨ga, 0, none⟩ ∧ xc = gc := by
                        injection hge with e1 e2 e3
                        exact ⟨e1, e3⟩
                      obtain ⟨i, rfl, hil, hi0, hid⟩ := LF.out x (by rw [hx]; exact List.getElem_mem _)
                      have IL := Lib.hid (And.intro hil (And.intro hi0 hid))
                      have HN0 := Lib.hid (HI.out (by rw [← NL.out]; exact n2))
                      have i80 : i < 80 := (AO.out.tv.ix.pgs i hid).lt
                      have I80 := Lib.hid i80
                      have CG := Lib.hid (sv_get V6.out i i80)
                      have nz : ¬ (nl : Int) = 0 := by omega
                      clear hge hx hl1 hil hi0 hid ib0 ib1 hz LF HI O9 LL2
                      have hcell2 : wr.cell? ⟨ga, ((wrap64 (which.tmod ↑nl + ↑nl)).tmod ↑nl).toNat, none⟩ = some (.int .i64 (i : Int)) := by
                        rw [EW.out, Int.toNat_natCast]; exact hcell
                      have hb0 : 0 ≤ (wrap64 (which.tmod ↑nl + ↑nl)).tmod ↑nl := by rw [EW.out]; omega
                      have hb1 : (wrap64 (which.tmod ↑nl + ↑nl)).tmod ↑nl < ↑nl := by rw [EW.out]; omega
                      obtain ⟨p, hp⟩ : ∃ p, p = pg i := ⟨_, rfl⟩
                      have PE := Lib.hid hp
                      rw [← hp] at CG
                      clear hcell hp EW
                      as_aux_lemma =>
                        go_wp2_with fail
                        refine CG.out.mono ?_
                        rintro e w6 ⟨rfl, hb⟩
                        have V7 := Lib.hid (V6.out.kept hb)
                        have B7 := Lib.hid (below_then B9.out hb B9.out.size)
                        have BX := Lib.hid ((Below.refl w6.heap.size w6).alloc (Nat.le_refl _) (.cells p.cs 50))
                        have KP := Lib.hid (Bk.new w6 50 p.cs)
                        obtain ⟨G, hG⟩ : ∃ G, G = w6.heap.size := ⟨_, rfl⟩
                        have GE := Lib.hid hG
                        rw [← hG] at KP BX
                        clear hb CG V6 B9 BF hcell2 hb0 hb1
                        have CS := Lib.hid (fun (w8 : World) (hb : Below G w6 w8) => sv_set (V7.out.kept (by rw [← GE.out]; exact hb)) i I80.out (spoil kind (pg i) i) (spoil_ok kind (AO.out.ok i I80.out) i (by have := I80.out; omega)) (by decide))
                        have CX := Lib.hid (fun (w8 w9 : World) (hb : Below G w6 w8) (hg : w8.grownBy w9 (some b)) => below_then B1.out ((V7.out.kept (show Below w6.heap.size w6 w8 by rw [← GE.out]; exact hb)).touch (below_then B7.out (show Below w6.heap.size w6 w8 by rw [← GE.out]; exact hb) B7.out.size) rfl hg (.inl rfl)) B1.out.size)
                        have CB := Lib.hid (fun (w9 : World) (M : Nat) (hs : SV w9 w1.heap.size g b gs r 80 M pg (upd pg i (spoil kind (pg i) i))) => ao_bad hs AO.out HN0.out IL.out)
                        have EK := Lib.hid (show (wrap64 (kind.tmod 3 + 3)).tmod 3 = (kind.tmod 3 + 3).tmod 3 from by
                          have tb : -3 < kind.tmod 3 ∧ kind.tmod 3 < 3 := tmod_bd kind (m := 3) (by omega)
                          rw [IntWalk.wrap64_in (kind.tmod 3 + 3) (by omega)])
                        have SPE := Lib.hid (show spoil kind (pg i) i = spoil kind p i from by rw [PE.out])
                        rw [SPE.out] at CS CB
                        clear V7 B7 PE IL HN0 I80 GE SPE
                        as_aux_lemma =>
                          go_upto_region 30 with (refine store_page_new rfl _ _ rfl p rfl rfl ?_; rw [← hG]; clear hG; generalize w6.alloc (.cells p.cs 50) = w7 at *)
                          by_cases k0 : (kind.tmod 3 + 3).tmod 3 = 0
                          · have e0 : ((wrap64 (kind.tmod 3 + 3)).tmod 3 == 0) = true := by rw [EK.out, k0]; rfl
                            have SP := Lib.hid (show spoil kind p i = { p with n := (i : Int) } from by unfold spoil; rw [if_pos k0])
                            have c3 : w7.cell? ⟨G, 3, none⟩ = some (.int .i64 p.n) := KP.out.cell 3
                            have fz := KP.out.fz 3
                            have K8 := Lib.hid (KP.out.l3 (i : Int))
                            have B8 := Lib.hid (BX.out.setCell (p := ⟨G, 3, none⟩) (Nat.le_refl _) (.int .i64 (i : Int)))
                            rw [← SP.out] at K8
                            clear BX k0 EK SP
                            as_aux_lemma =>
                              go_wp2_with (refine load_page rfl _ rfl G (spoil kind p i) rfl K8.out ?_)
                              refine (CS.out _ B8.out).mono ?_
                              rintro e w9 ⟨rfl, hs, hg⟩
                              have V9 := Lib.hid hs
                              have B9 := Lib.hid (CX.out _ _ B8.out hg)
                              clear hs hg CS CX K8 B8
                              have CC := Lib.hid (CB.out _ _ V9.out)
                              clear CB V9
                              as_aux_lemma =>
                                go_wp2_with fail
                                refine CC.out.mono ?_
                                rintro e w10 ⟨er, rfl, hne, hb⟩
                                have hneb : (er != 0) = true := by simp [hne]
                                have BF := Lib.hid (below_then B9.out hb B9.out.size)
                                clear CC hb B9
                                go_wp2
                                go_ret
                                exact ⟨rfl, BF.out⟩
                          by_cases k1 : (kind.tmod 3 + 3).tmod 3 = 1
                          · have e0 : ((wrap64 (kind.tmod 3 + 3)).tmod 3 == 0) = false := by rw [EK.out, k1]; rfl
                            have e1 : ((wrap64 (kind.tmod 3 + 3)).tmod 3 == 1) = true := by rw [EK.out, k1]; rfl
                            have SP := Lib.hid (show spoil kind p i = { p with l := 1 } from by unfold spoil; rw [if_neg k0, if_pos k1])
                            have c3 : w7.cell? ⟨G, 1, none⟩ = some (.int .i64 p.l) := KP.out.cell 1
                            have fz := KP.out.fz 1
                            have K8 := Lib.hid (KP.out.l1 1)
                            have B8 := Lib.hid (BX.out.setCell (p := ⟨G, 1, none⟩) (Nat.le_refl _) (.int .i64 1))
                            rw [← SP.out] at K8
                            clear BX k0 k1 EK SP
                            as_aux_lemma =>
                              go_wp2_with (refine load_page rfl _ rfl G (spoil kind p i) rfl K8.out ?_)
                              refine (CS.out _ B8.out).mono ?_
                              rintro e w9 ⟨rfl, hs, hg⟩
                              have V9 := Lib.hid hs
                              have B9 := Lib.hid (CX.out _ _ B8.out hg)
                              clear hs hg CS CX K8 B8
                              have CC := Lib.hid (CB.out _ _ V9.out)
                              clear CB V9
                              as_aux_lemma =>
                                go_wp2_with fail
                                refine CC.out.mono ?_
                                rintro e w10 ⟨er, rfl, hne, hb⟩
                                have hneb : (er != 0) = true := by simp [hne]
                                have BF := Lib.hid (below_then B9.out hb B9.out.size)
                                clear CC hb B9
                                go_wp2
                                go_ret
                                exact ⟨rfl, BF.out⟩
                          · have e0 : ((wrap64 (kind.tmod 3 + 3)).tmod 3 == 0) = false := by rw [EK.out]; exact beq_eq_false_iff_ne.2 k0
                            have e1 : ((wrap64 (kind.tmod 3 + 3)).tmod 3 == 1) = false := by rw [EK.out]; exact beq_eq_false_iff_ne.2 k1
                            have SP := Lib.hid (show spoil kind p i = putC (putC p 0 (p.c 1)) 1 (p.c 0) from by unfold spoil; rw [if_neg k0, if_neg k1])
                            have K8 := Lib.hid (show Bk (w7.setCells G (4 + 0 * 2) [.int .i64 (p.c 1).st, .string (p.c 1).d]) G 50 (putC p 0 (p.c 1)).cs from putRow p 0 (by omega) (p.c 1).st (p.c 1).d KP.out)
                            have B8 := Lib.hid (show Below G w6 (w7.setCells G (4 + 0 * 2) [.int .i64 (p.c 1).st, .string (p.c 1).d]) from (BX.out.setCell (p := ⟨G, 4, none⟩) (Nat.le_refl _) _).setCell (p := ⟨G, 5, none⟩) (Nat.le_refl _) _)
                            have K9 := Lib.hid (show Bk ((w7.setCells G (4 + 0 * 2) [.int .i64 (p.c 1).st, .string (p.c 1).d]).setCells G (4 + 1 * 2) [.int .i64 (p.c 0).st, .string (p.c 0).d]) G 50 (putC (putC p 0 (p.c 1)) 1 (p.c 0)).cs from putRow _ 1 (by omega) (p.c 0).st (p.c 0).d K8.out)
                            have B9 := Lib.hid (show Below G w6 ((w7.setCells G (4 + 0 * 2) [.int .i64 (p.c 1).st, .string (p.c 1).d]).setCells G (4 + 1 * 2) [.int .i64 (p.c 0).st, .string (p.c 0).d]) from (B8.out.setCell (p := ⟨G, 6, none⟩) (Nat.le_refl _) _).setCell (p := ⟨G, 7, none⟩) (Nat.le_refl _) _)
                            rw [← SP.out] at K9
                            clear k0 k1 EK SP BX
                            as_aux_lemma =>
                              go_upto_region 36 with (first
                                | (refine load_cell_at rfl _ rfl G p 1 (by omega) rfl KP.out ?_)
                                | (refine load_cell_at rfl _ rfl G p 0 (by omega) rfl KP.out ?_)
                                | (refine store_cell_at rfl _ _ rfl G p 0 (by omega) (p.c 1).st (p.c 1).d rfl rfl KP.out ?_; generalize w7.setCells G (4 + 0 * 2) [.int .i64 (p.c 1).st, .string (p.c 1).d] = w8 at *)
                                | (refine store_cell_at rfl _ _ rfl G (putC p 0 (p.c 1)) 1 (by omega) (p.c 0).st (p.c 0).d rfl rfl K8.out ?_; generalize w8.setCells G (4 + 1 * 2) [.int .i64 (p.c 0).st, .string (p.c 0).d] = w9 at *))
                              clear K8 B8 KP
                              have K8 := K9
                              have B8 := B9
                              clear K9 B9
                              as_aux_lemma =>
                                go_wp2_with (refine load_page rfl _ rfl G (spoil kind p i) rfl K8.out ?_)
                                refine (CS.out _ B8.out).mono ?_
                                rintro e wA ⟨rfl, hs, hg⟩
                                have V9 := Lib.hid hs
                                have B9 := Lib.hid (CX.out _ _ B8.out hg)
                                clear hs hg CS CX K8 B8
                                have CC := Lib.hid (CB.out _ _ V9.out)
                                clear CB V9
                                as_aux_lemma =>
                                  go_wp2_with fail
                                  refine CC.out.mono ?_
                                  rintro e wB ⟨er, rfl, hne, hb⟩
                                  have hneb : (er != 0) = true := by simp [hne]
                                  have BF := Lib.hid (below_then B9.out hb B9.out.size)
                                  clear CC hb B9
                                  go_wp2
                                  go_ret
                                  exact ⟨rfl, BF.out⟩
end Go.Proofs.Ytelbioooggnbiaa
