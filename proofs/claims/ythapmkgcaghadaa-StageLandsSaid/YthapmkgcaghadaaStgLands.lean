/- StageLands. -/
import Derived.Test.YthapmkgcaghadaaStgLib
set_option linter.unusedVariables false
set_option linter.unusedSimpArgs false
namespace Go.Proofs.Ythapmkgcaghadaa
open Go.RowKit Go.Maps

theorem fit_out {ps : List Pg} {l : List Im} (h : ∀ i ∈ l, (0 ≤ i.id ∧ i.id < ps.length) ∧ i.p.ok) : fit ps.length (outL (getPg ps) l) := fun i hi => ⟨(h i (outL_mem hi)).1, (h i (outL_mem hi)).2⟩
theorem wants (ps : List Pg) (l : List Im) (j : Nat) : (List.range (j + 1)).map (fun k : Nat => (ssGet ps l k).1) = (List.range j).map (fun k : Nat => (ssGet ps l k).1) ++ [(ssGet ps l j).1] := by
  rw [List.range_succ, List.map_append]; rfl
theorem owns_len {w : World} {base : Nat} {e : TypeId} {size : Nat} {v : Value} {n m : Nat} {xs : List Value} (h : w.ownsRow base e size v n xs) (hm : n = m) : w.ownsRow base e size v m xs := hm ▸ h
set_option maxRecDepth 100000 in
set_option maxHeartbeats 8000000 in
theorem walk_StageLands (n : Int) (v1 : Value) (u : List Im) (v2 : Value) (o : List Im) (w : World) (hn1 : -9223372036854775808 ≤ n) (hn2 : n ≤ 9223372036854775807) (h1 : IsIms w v1 u) (h2 : IsIms w v2 o) :
    Calls Try.prog 4 #[.int .i64 n, v1, v2] w fun e w' => e = .returned (.bool true) ∧ Below w.heap.size w w' := by
  have U := Lib.hid h1; have O := Lib.hid h2
  obtain ⟨ua, uc, rfl, ux⟩ := h1.at_
  obtain ⟨oa, oc, rfl, ox⟩ := h2.at_
  have CA := Lib.hid (awake_any w)
  clear h1 h2 ux ox
  obtain ⟨j0, hji, hy0, hy1, hy2⟩ := info_parts Try.info42
  go_enter Try.func4, Try.ntmps4
  go_wp2_with fail
  refine CA.out.mono ?_
  rintro e w1 ⟨rfl, hb⟩
  have B1 := Lib.hid hb
  clear hb CA
  by_cases hn : 1 ≤ n ∧ n ≤ 1024
  rotate_left
  · have CM := Lib.hid (memory_no n w1 hn)
    clear hn
    go_wp2_with fail
    refine CM.out.mono ?_
    rintro e w2 ⟨rfl, rfl⟩
    go_wp2
    go_ret
    exact ⟨rfl, B1.out⟩
  obtain ⟨N, rfl⟩ : ∃ N : Nat, n = N := ⟨n.toNat, by omega⟩
  have NL := Lib.hid hn
  have CM := Lib.hid (memory_good N w1 (by omega) (by omega))
  clear hn
  go_wp2_with fail
  refine CM.out.mono ?_
  rintro e w2 ⟨gs, r, rfl, hS, hb⟩
  have RB := Lib.hid (show w.heap.size ≤ r from Nat.le_trans B1.out.size hS.br)
  have S2 := Lib.hid (show Sh w2 w.heap.size gs r (List.replicate N Pg.zero) from ⟨hS.box, hS.row, hS.one, hS.most, Nat.le_trans B1.out.size hS.bg, RB.out⟩)
  have B2 := Lib.hid (below_then B1.out hb B1.out.size)
  clear hS hb CM B1
  as_aux_lemma =>
    go_wp2_with fail
    go_loopw [33] (fun i wr => ∃ (j : Nat) (ps : List Pg), j ≤ u.length ∧ i = .int .i64 j ∧ Sh wr w.heap.size gs r ps ∧ ps.length = N ∧ Below w.heap.size w wr) (fun i _ => u.length - (intOf i).toNat)
    case atStart => exact ⟨0, _, Nat.zero_le _, rfl, S2.out, List.length_replicate, B2.out⟩
    case round =>
      obtain ⟨j, ps, hj, rfl, hS, hpl, hb⟩ := hrel
      have S3 := Lib.hid hS; have B3 := Lib.hid hb; have PL := Lib.hid hpl
      clear hS hb hpl S2 B2
      by_cases hlt : j < u.length
      · have HLT := Lib.hid hlt
        have hjb : j < 9223372036854775807 := by have := U.out.len; simp only [maxLen] at this; omega
        obtain ⟨x, hx⟩ : ∃ x, u[j]? = some x := ⟨_, List.getElem?_eq_getElem hlt⟩
        obtain ⟨a', c', e1, hat⟩ := (U.out.at_.below B3.out)
        obtain ⟨b1, off, e2, hb1, hra⟩ := hat (by omega)
        obtain ⟨rfl, rfl⟩ : ua = some ⟨b1, off, none⟩ ∧ uc = c' := by rw [e2] at e1; simpa using e1
        have RA := Lib.hid (hra j x hx)
        have BN := Lib.hid (B3.out.alloc B3.out.size (.cells x.cs 59))
        have SN := Lib.hid (S3.out.kept ((Below.refl _ _).alloc (Nat.le_refl _) (.cells x.cs 59)))
        have KN := Lib.hid (Bk.new wr 59 x.cs)
        obtain ⟨G, hG⟩ : ∃ G, G = wr.heap.size := ⟨_, rfl⟩
        rw [← hG] at KN
        clear e1 hat e2 hb1 hra hx
        as_aux_lemma =>
          go_upto_region 9 with (first | (refine load_im_off rfl _ rfl b1 off j x rfl RA.out ?_) | (refine store_im_new rfl _ _ rfl x rfl rfl ?_; rw [← hG]; clear hG; generalize wr.alloc (.cells x.cs 59) = w4 at *))
          have IO := Lib.hid (IOwn.lit w4 x (Nat.le_refl _))
          have S5 := Lib.hid (SN.out.kept ((Below.refl _ _).alloc (Nat.le_refl _) (.cells x.cs 59)))
          have B5 := Lib.hid (BN.out.alloc BN.out.size (.cells x.cs 59))
          have CP := Lib.hid (sh_apply S5.out IO.out)
          go_wp2_with (first | (refine load_im_blk rfl _ rfl G x rfl KN.out ?_) | (refine slice1_im rfl _ rfl x rfl ?_))
          refine CP.out.mono ?_
          rintro e w6 ⟨rfl, hS, hg⟩
          have S6 := Lib.hid hS
          have B6 := Lib.hid (bl_grow B5.out hg (fun j hj => by cases hj; exact RB.out) B5.out.size)
          clear hS hg IO S5 B5 CP
          go_wp2
          go_roundw
          case rel => exact ⟨j + 1, _, by have := HLT.out; omega, by go_num, S6.out, by rw [appL_len]; exact PL.out, B6.out⟩
          case measure => have := HLT.out; simp [intOf]; omega
      · have hjn : j = u.length := by omega
        subst hjn
        clear hlt hj
        as_aux_lemma =>
          go_wp2_with fail
          refine (ss_new S3.out B3.out.size).mono ?_
          rintro e w2 ⟨g, b, rfl, hs, hb, -, -⟩
          have S4 := Lib.hid hs
          have B4 := Lib.hid (below_then B3.out hb B3.out.size)
          have RL := Lib.hid (show r < w2.heap.size from Bk.lt hs.sh.row)
          clear hs hb S3 B3
          as_aux_lemma =>
            go_wp2_with fail
            go_loopw [47] (fun i wr => ∃ (j m : Nat) (l : List Im), j ≤ o.length ∧ m ≤ j ∧ i = .int .i64 j ∧ SS wr w.heap.size g b m gs r ps l ∧ (∀ i ∈ l, i.id < N) ∧ Below w.heap.size w wr) (fun i _ => o.length - (intOf i).toNat)
            case atStart => exact ⟨0, 0, [], Nat.zero_le _, Nat.le_refl _, rfl, S4.out, (fun i hi => by cases hi), B4.out⟩
            case round =>
              obtain ⟨j, m, l, hj, hmj, rfl, hS, hl, hb⟩ := hrel
              have S5 := Lib.hid hS; have B5 := Lib.hid hb; have LN := Lib.hid hl; have MJ := Lib.hid hmj
              clear hS hb hl hmj S4 B4
              by_cases hlt : j < o.length
              · have HLT := Lib.hid hlt
                have hjb : j < 9223372036854775807 := by have := O.out.len; simp only [maxLen] at this; omega
                have HJB := Lib.hid hjb
                obtain ⟨x, hx⟩ : ∃ x, o[j]? = some x := ⟨_, List.getElem?_eq_getElem hlt⟩
                obtain ⟨a', c', e1, hat⟩ := (O.out.at_.below B5.out)
                obtain ⟨b1, off, e2, hb1, hra⟩ := hat (by omega)
                obtain ⟨rfl, rfl⟩ : oa = some ⟨b1, off, none⟩ ∧ oc = c' := by rw [e2] at e1; simpa using e1
                have RA := Lib.hid (hra j x hx)
                have BN := Lib.hid (B5.out.alloc B5.out.size (.cells x.cs 59))
                have SN := Lib.hid (S5.out.alloc (.cells x.cs 59))
                have KN := Lib.hid (Bk.new wr 59 x.cs)
                obtain ⟨G, hG⟩ : ∃ G, G = wr.heap.size := ⟨_, rfl⟩
                rw [← hG] at KN
                clear e1 hat e2 hb1 hra hx
                as_aux_lemma =>
                  go_upto_region 15 with (first | (refine load_im_off rfl _ rfl b1 off j x rfl RA.out ?_) | (refine store_im_new rfl _ _ rfl x rfl rfl ?_; rw [← hG]; clear hG; generalize wr.alloc (.cells x.cs 59) = w4 at *))
                  have x0 : w4.cell? ⟨G, 0, none⟩ = some (.int .i64 x.id) := im_id KN.out
                  by_cases hxn : x.id < (N : Int)
                  · have CP := Lib.hid (ss_set SN.out x.id x.p (by have := MJ.out; have := HJB.out; simp only [maxLen]; omega))
                    have XN := Lib.hid hxn
                    go_wp2_with (refine load_im_page rfl _ rfl G x rfl KN.out ?_)
                    refine CP.out.mono ?_
                    rintro e w6 ⟨rfl, hS, hg⟩
                    have S6 := Lib.hid hS
                    have B6 := Lib.hid (bl_grow BN.out hg (fun j hj => by cases hj; exact SN.out.sg.bb) BN.out.size)
                    have L6 := Lib.hid (show ∀ i ∈ setL l x.id x.p, i.id < N from fun i hi => by
                      rcases setL_mem hi with ⟨rfl, _⟩ | h
                      · exact XN.out
                      · exact LN.out i h)
                    clear hS hg CP hxn
                    go_wp2
                    go_roundw
                    case rel => exact ⟨j + 1, m + 1, _, by have := HLT.out; omega, by have := MJ.out; omega, by go_num, S6.out, L6.out, B6.out⟩
                    case measure => have := HLT.out; simp [intOf]; omega
                  · go_wp2
                    go_roundw
                    case rel => exact ⟨j + 1, m, _, by have := HLT.out; omega, by have := MJ.out; omega, by go_num, SN.out, LN.out, BN.out⟩
                    case measure => have := HLT.out; simp [intOf]; omega
              · have hjn : j = o.length := by omega
                subst hjn
                clear hlt hj MJ
                have IN := Lib.hid (show ∀ i ∈ l, (0 ≤ i.id ∧ i.id < ps.length) ∧ i.p.ok from fun i hi => by
                  have h1 := S5.out.ids i hi
                  have h2 := LN.out i hi
                  rw [PL.out]
                  exact ⟨⟨h1.1.1, h2⟩, h1.2⟩)
                obtain ⟨Bw, hBw⟩ : ∃ Bw, Bw = wr.heap.size := ⟨_, rfl⟩
                have BR := Lib.hid (show w.heap.size ≤ Bw by rw [hBw]; exact B5.out.size)
                have BW := Lib.hid (show r < Bw by rw [hBw]; exact Bk.lt S5.out.sh.row)
                have BE := Lib.hid hBw
                clear hBw
                clear LN
                as_aux_lemma =>
                  go_wp2_with fail
                  go_loopw [14, 63] (fun x i wx => ∃ j : Nat, j ≤ N ∧ i = .int .i64 j ∧ POwn wx Bw x ((List.range j).map fun k : Nat => (ssGet ps l k).1) ∧ SS wx w.heap.size g b m gs r ps l ∧ Below w.heap.size w wx ∧ Bw ≤ wx.heap.size) (fun _ i _ => N - (intOf i).toNat)
                  case atStart => exact ⟨0, Nat.zero_le _, rfl, World.ownsRow_nil _ _ _ _, S5.out, B5.out, Nat.le_of_eq BE.out⟩
                  case round =>
                    obtain ⟨j, hj, rfl, hO, hS, hb, hsz⟩ := hrel
                    obtain ⟨xa, xc, hxe⟩ := ow_slice hO
                    rw [List.length_map, List.length_range] at hxe
                    subst hxe
                    have W0 := Lib.hid (owns_len hO (by rw [List.length_map, List.length_range] : _ = j)); have S6 := Lib.hid hS; have B6 := Lib.hid hb; have SZ := Lib.hid hsz
                    clear hO hS hb hsz S5 B5
                    by_cases hlt : j < N
                    · have HLT := Lib.hid hlt
                      have hjb : j < 1024 := by have := NL.out; omega
                      obtain ⟨p, hp⟩ : ∃ p, p = (ssGet ps l j).1 := ⟨_, rfl⟩
                      have CG := Lib.hid (ss_get S6.out j (by omega) (by omega))
                      rw [ssGet_in (by rw [PL.out]; exact hlt), ← hp] at CG
                      have WT := Lib.hid (wants ps l j)
                      rw [← hp] at WT
                      clear hp
                      go_wp2_with fail
                      refine CG.out.mono ?_
                      rintro e w7 ⟨rfl, hb7⟩
                      have hb8 := hb7.alloc hb7.size (.cells p.cs 42)
                      have W8 := Lib.hid (ow_kept W0.out hb8)
                      have S8 := Lib.hid (S6.out.kept hb8)
                      have B8 := Lib.hid (below_then B6.out hb8 B6.out.size)
                      have Z8 := Lib.hid (show Bw ≤ (w7.alloc (.cells p.cs 42)).heap.size from Nat.le_trans SZ.out hb8.size)
                      have K8 := Lib.hid (Bk.new w7 42 p.cs)
                      obtain ⟨G, hG⟩ : ∃ G, G = w7.heap.size := ⟨_, rfl⟩
                      rw [← hG] at K8
                      clear hb7 hb8 CG W0 S6 B6 SZ
                      dsimp only
                      as_aux_lemma =>
                        go_upto_region 25 with (refine store_page_new rfl _ _ rfl p rfl rfl ?_; rw [← hG]; clear hG; generalize w7.alloc (.cells p.cs 42) = w8 at *)
                        have W9 := Lib.hid (W8.out.alloc (.cells p.cs 42))
                        have S9 := Lib.hid (S8.out.alloc (.cells p.cs 42))
                        have B9 := Lib.hid (B8.out.alloc B8.out.size (.cells p.cs 42))
                        go_wp2_with (first
                          | (refine load_page rfl _ rfl G p rfl K8.out ?_)
                          | (refine slice1_pg rfl _ rfl p rfl ?_)
                          | (at_builtin; refine wpList_append_one _ rfl _ _ 29 rfl Bw 42 j0 (.agg Pg.zero.cs) 16 176 Try.underlying29 hji hy0 hy1 hy2 rfl (.slice xa j xc) j (flatPg ((List.range j).map fun k : Nat => (ssGet ps l k).1)) rfl W9.out ⟨w8.heap.size, 0, none⟩ 1 p.cs.toList rfl rfl ?qc2 ?qc3 ?qc4 (by omega) ?qc5 ?qc6 ?_))
                        case qc2 =>
                          intro q y hy
                          rw [Addr.add_lit, Nat.zero_add]
                          refine Eq.trans ((Bk.new w8 42 p.cs).cell q) ?_
                          simpa using hy
                        case qc3 => simp [Pg.cs, Value.oneCell']
                        case qc4 => unfold maxLen; omega
                        case qc5 => omega
                        case qc6 => have := Z8.out; simp; omega
                        intro v9 w9 hown hgrow
                        obtain ⟨za, zc, hze⟩ := ow_slice hown
                        subst hze
                        have WA := Lib.hid (show POwn w9 Bw (.slice za (j + 1) zc) ((List.range (j + 1)).map fun k : Nat => (ssGet ps l k).1) by
                          rw [WT.out]
                          unfold POwn
                          rw [List.length_append, List.length_map, List.length_range, flatPg_app]
                          exact hown)
                        have SA := Lib.hid (S9.out.grown hgrow (fun k hk => by
                          have h1 := ow_blk W9.out hk
                          obtain ⟨_, _, cur, hcur⟩ := h1
                          exact S9.out.row_ne hcur (by decide) (by decide) (by have := BW.out; omega)))
                        have BA := Lib.hid (bl_grow B9.out hgrow (fun j hj => by have := (ow_blk W9.out hj).1; have := BR.out; omega) B9.out.size)
                        have ZA := Lib.hid (show Bw ≤ w9.heap.size by have := hgrow.size; have := Z8.out; simp at *; omega)
                        clear hown hgrow W9 S9 B9 W8 S8 B8 Z8
                        go_wp2
                        go_roundw
                        case rel => exact ⟨j + 1, by have := HLT.out; omega, by go_num, WA.out, SA.out, BA.out, ZA.out⟩
                        case measure => have := HLT.out; simp [intOf]; omega
                    · have hjn : j = N := by omega
                      subst hjn
                      clear hlt hj
                      have CI := Lib.hid (ss_images S6.out)
                      as_aux_lemma =>
                        go_wp2_with fail
                        refine CI.out.mono ?_
                        have h0 : errL (getPg ps) l = 0 := errL_in fun i hi => (IN.out i hi).1
                        rintro e w7 (⟨hne, -, -⟩ | ⟨-, v, rfl, hv, hb⟩)
                        · exact absurd h0 hne
                        have IV := Lib.hid hv
                        have S7 := Lib.hid (S6.out.kept hb)
                        have B7 := Lib.hid (below_then B6.out hb B6.out.size)
                        have W7 := Lib.hid (ow_kept W0.out hb)
                        clear hv hb h0 CI S6 B6 W0
                        have CP := Lib.hid (ss_apply S7.out IV.out)
                        have hE : appE ps (outL (getPg ps) l) = 0 := if_pos (fit_out IN.out)
                        have hL : appL ps (outL (getPg ps) l) = putAll ps (outL (getPg ps) l) := if_pos (fit_out IN.out)
                        rw [hE, hL] at CP
                        have PX := Lib.hid (fun (k : Nat) (hk : k < ps.length) => lands (ps := ps) (l := l) S7.out.up (fun i hi => (IN.out i hi).1) hk)
                        have PX2 := Lib.hid (show (putAll ps (outL (getPg ps) l)).length = j from by rw [putAll_len]; exact PL.out)
                        clear hE hL
                        generalize putAll ps (outL (getPg ps) l) = qs at *
                        as_aux_lemma =>
                          go_wp2_with fail
                          refine CP.out.mono ?_
                          rintro e w8 ⟨rfl, hS, hg⟩
                          have S8 := Lib.hid hS
                          have B8 := Lib.hid (bl_grow B7.out hg (fun j hj => by cases hj; exact RB.out) B7.out.size)
                          have W8 := Lib.hid (ow_grown W7.out hg (fun k hk => by cases hk; exact BW.out))
                          clear hS hg CP S7 B7 W7 IV
                          as_aux_lemma =>
                            go_wp2_with fail
                            go_loopw [93] (fun i wx => ∃ k : Nat, k ≤ j ∧ i = .int .i64 k ∧ SS wx w.heap.size g b m gs r qs l ∧ POwn wx Bw (.slice xa j xc) ((List.range j).map fun k : Nat => (ssGet ps l k).1) ∧ Below w.heap.size w wx) (fun i _ => j - (intOf i).toNat)
                            case atStart => exact ⟨0, Nat.zero_le _, rfl, S8.out, owns_len W8.out (by rw [List.length_map, List.length_range]), B8.out⟩
                            case round =>
                              obtain ⟨k, hk, rfl, hS, hW, hb⟩ := hrel
                              have S9 := Lib.hid hS; have W9 := Lib.hid hW; have B9 := Lib.hid hb
                              clear hS hW hb S8 W8 B8
                              by_cases hlt : k < j
                              · have HLT := Lib.hid hlt
                                have hkb : k < 1024 := by have := NL.out; omega
                                obtain ⟨p, hp1, hp2, -⟩ := PX.out k (by rw [PL.out]; exact hlt)
                                have CG := Lib.hid (shget_any S9.out.sh k)
                                rw [getPg_in (by rw [PX2.out]; exact hlt), show qs.getD k Pg.zero = p by rw [List.getD_eq_getElem?_getD, hp1]; rfl] at CG
                                have hll : ((List.range j).map fun k : Nat => (ssGet ps l k).1).length = j := by rw [List.length_map, List.length_range]
                                obtain ⟨gw, cw, e1, _, hgw⟩ := POwn.form W9.out (by rw [hll]; omega)
                                rw [hll] at e1
                                obtain ⟨rfl, rfl⟩ : xa = some ⟨gw, 0, none⟩ ∧ xc = cw := by simpa using e1
                                obtain ⟨q, hq⟩ : ∃ q, q = (ssGet ps l k).1 := ⟨_, rfl⟩
                                have RW := Lib.hid (W9.out.range (i := k) (p := q) (by rw [List.getElem?_map, List.getElem?_range hlt, hq]; rfl))
                                rw [← hq] at hp2
                                have NE := fun w => page_neq p q w
                                rw [hp2] at NE
                                clear hp1 hp2 hq e1
                                go_wp2_with fail
                                refine CG.out.mono ?_
                                rintro e wa ⟨rfl, hba⟩
                                have hbb := hba.alloc hba.size (.cells p.cs 42)
                                have SB := Lib.hid (S9.out.kept hbb)
                                have WB := Lib.hid (ow_kept W9.out hbb)
                                have BB := Lib.hid (below_then B9.out hbb B9.out.size)
                                have RB2 := Lib.hid (show (wa.alloc (.cells p.cs 42)).rangeAt gw (k * 16) q.cs.toList from fun i u hu => (hbb.cell (p := ⟨gw, k * 16 + i, none⟩) hgw).trans (RW.out i u hu))
                                have KB := Lib.hid (Bk.new wa 42 p.cs)
                                obtain ⟨G, hG⟩ : ∃ G, G = wa.heap.size := ⟨_, rfl⟩
                                rw [← hG] at KB
                                clear hba hbb CG S9 B9 RW hgw W9
                                dsimp only
                                as_aux_lemma =>
                                  go_upto_region 34 with (refine store_page_new rfl _ _ rfl p rfl rfl ?_; rw [← hG]; clear hG; generalize wa.alloc (.cells p.cs 42) = wb at *)
                                  have hkj : (k : Int) < (j : Int) := by omega
                                  refine wp_region_still_tail 8 (by kernel_rfl) (by kernel_rfl) ?_
                                  simp only [List.take_succ_cons, List.take_zero, List.drop_succ_cons, List.drop_zero]
                                  still_step
                                  still_step
                                  still_step
                                  refine still_page_w _ rfl (by first | rfl | kernel_rfl) G p rfl KB.out.drew ?_
                                  still_step
                                  still_step
                                  still_step
                                  refine still_page_at_w _ rfl (by first | rfl | kernel_rfl) gw (k * 16) q rfl RB2.out ?_
                                  refine wpStill_nil ?_
                                  change wpList _ _ _ _ _ wb.drew
                                  have SC := Lib.hid SB.out.drew
                                  have WC := Lib.hid (show POwn wb.drew Bw (.slice (some ⟨gw, 0, none⟩) j xc) ((List.range j).map fun k : Nat => (ssGet ps l k).1) from WB.out)
                                  have BC := Lib.hid (show Below w.heap.size w wb.drew from BB.out.drew)
                                  clear SB WB BB
                                  go_wp2
                                  go_roundw
                                  case rel => exact ⟨k + 1, by have := HLT.out; omega, by go_num, SC.out, WC.out, BC.out⟩
                                  case measure => have := HLT.out; simp [intOf]; omega
                              · have hjn : k = j := by omega
                                subst hjn
                                clear hlt hk
                                have CI := Lib.hid (ss_images S9.out)
                                have h0 : errL (getPg qs) l = 0 := errL_in fun i hi => by rw [PX2.out, ← PL.out]; exact (IN.out i hi).1
                                have h1 : outL (getPg qs) l = [] := by
                                  unfold outL
                                  rw [List.filter_eq_nil_iff]
                                  intro i hi
                                  have h2 := IN.out i hi
                                  obtain ⟨kk, hkk⟩ : ∃ kk : Nat, i.id = kk := ⟨i.id.toNat, by omega⟩
                                  have hkl : kk < ps.length := by omega
                                  obtain ⟨p, hp1, -, hp3⟩ := PX.out kk hkl
                                  have h3 := hp3 i.p (by rw [← hkk]; exact look_mem S9.out.up hi)
                                  rw [hkk, getPg_in (by rw [PX2.out, ← PL.out]; exact hkl), show qs.getD kk Pg.zero = p by rw [List.getD_eq_getElem?_getD, hp1]; rfl]
                                  dsimp only
                                  rw [h3]
                                  decide
                                as_aux_lemma =>
                                  go_wp2_with fail
                                  refine CI.out.mono ?_
                                  rintro e wa (⟨hne, -, -⟩ | ⟨-, v, rfl, hv, hb⟩)
                                  · exact absurd h0 hne
                                  rw [h1] at hv
                                  obtain ⟨ya, yc, rfl⟩ := ow_slice hv
                                  have BA := Lib.hid (below_then B9.out hb B9.out.size)
                                  clear hv hb CI h0 h1
                                  go_wp2
                                  go_ret
                                  exact ⟨rfl, BA.out⟩
end Go.Proofs.Ythapmkgcaghadaa
