/- HeapLists. -/
import Derived.Test.YtdhfcjplnbnkdaaHpLst
set_option linter.unusedVariables false
set_option linter.unusedSimpArgs false
namespace Go.Proofs.Ytdhfcjplnbnkdaa
open Go.RowKit Go.Maps

section
variable {ops : Array Oper} {rest : List Oper} {o : Oper} {a : Act} {w : World} {Q : Exit → Act → World → Prop}
theorem load_pair (hgd : o.guard = none) (x : Operand) (ho : o.op = .load 57 x) (g off : Nat) (p : Pr) (hx : a.eval x = .pointer (some ⟨g, off, none⟩)) (hr : w.rangeAt g off (encP p))
    (h : wpList Try.prog ops Q rest (a.put o.dst (.agg #[.string ⟨#[]⟩, .int .i64 p.1, .string p.2])) w) : wpList Try.prog ops Q (o :: rest) a w :=
  wpList_load_mid hgd 57 x ho g off hx (encP p) _ hr Try.underlying57 rfl (by rw [show (encP p).length = 3 from rfl]; kernel_rfl) h
end
theorem pair_at {w : World} {base : Nat} {v : Value} {l : List Pr} (h : w.ownsRow base 57 3 v l.length (pairL l)) (i : Nat) (hi : i < l.length) : ∃ g cap, v = .slice (some ⟨g, 0, none⟩) l.length cap ∧ base ≤ g ∧ g < w.heap.size ∧ w.rangeAt g (i * 3) (encP l[i]) := by
  rcases h.2 with ⟨_, h0⟩ | ⟨g, cap, cur, hv, hg, hh, h1, h2, h3, h4⟩
  · omega
  · have hlt : g < w.heap.size := (Array.getElem?_eq_some_iff.1 hh).1
    refine ⟨g, cap, hv, hg, hlt, fun j u hu => ?_⟩
    have hj : j < 3 := (List.getElem?_eq_some_iff.1 hu).1
    have hH := holds_of_block_v hh (by rw [pairL_len]; exact h4)
    have hl : (pairL l).length = l.length * 3 := pairL_len l
    have h5 := (hH (i * 3 + j) (by simp only [List.size_toArray, hl]; omega)).1
    rw [Nat.zero_add] at h5
    rw [h5]
    have h6 : (pairL l)[i * 3 + j]? = some u := by
      rw [pairL_get, show (i * 3 + j) / 3 = i by omega, show (i * 3 + j) % 3 = j by omega, List.getElem?_eq_getElem hi]
      exact hu
    have h7 := (List.getElem?_eq_some_iff.1 h6)
    obtain ⟨h8, h9⟩ := h7
    simp [h8, h9]
/-- The number of the record before. -/
def lastP (l : List Pr) : Nat → Int
  | 0 => -1
  | j + 1 => (l.getD j (0, ⟨#[]⟩)).1
theorem last_lt {L : Nat → Nat → Ce} {l : List Pr} (h : LsP L l) (i : Nat) (hi : i < l.length) : lastP l i < l[i].1 := by
  cases i with
  | zero =>
    have := ((h.mem l[0]).1 (List.getElem_mem hi)).1.1
    show (-1 : Int) < _
    omega
  | succ j =>
    show (l.getD j (0, ⟨#[]⟩)).1 < _
    rw [List.getD_eq_getElem?_getD, List.getElem?_eq_getElem (by omega)]
    exact (List.pairwise_iff_getElem.1 h.sort) j (j + 1) (by omega) hi (by omega)
theorem rc_bd {pg : Nat → Pg} {n : Nat} {ch : List Nat} {L : Nat → Nat → Ce} (hc : Hc pg n ch L) {id : Int} (h : rcP L id) : 0 ≤ id ∧ id < 8 * n := by
  have h1 := (hc.mem (hc.rc_mem h.2.2)).2
  have := h.1
  exact ⟨h.1, by omega⟩
open Classical in
noncomputable def cntL (L : Nat → Nat → Ce) (n : Nat) : Nat := ((List.range n).filter fun k : Nat => decide (rcP L (k : Int))).length
open Classical in
theorem cnt_succ (L : Nat → Nat → Ce) (n : Nat) : cntL L (n + 1) = cntL L n + if rcP L (n : Int) then 1 else 0 := by
  unfold cntL
  rw [List.range_succ, List.filter_append, List.length_append]
  by_cases h : rcP L (n : Int) <;> simp [h]
theorem cnt_le (L : Nat → Nat → Ce) (n : Nat) : cntL L n ≤ n := by
  unfold cntL
  exact Nat.le_trans (List.length_filter_le _ _) (by simp)
open Classical in
theorem cnt_all {pg : Nat → Pg} {n : Nat} {ch : List Nat} {L : Nat → Nat → Ce} (hc : Hc pg n ch L) {l : List Pr} (h : LsP L l) : cntL L (8 * n) = l.length := by
  have h1 : (((List.range (8 * n)).filter fun k : Nat => decide (rcP L (k : Int))).map fun k : Nat => (k : Int)).Perm (l.map (·.1)) := by
    refine (List.perm_ext_iff_of_nodup ?_ ?_).2 ?_
    · exact (List.pairwise_map).2 ((List.Pairwise.filter _ List.nodup_range).imp fun {a b} hab e => hab (by omega))
    · refine (List.pairwise_map).2 (h.sort.imp fun {a b} hab => by omega)
    · intro x
      constructor
      · intro hx
        obtain ⟨k, hk, rfl⟩ := List.mem_map.1 hx
        have hr : rcP L (k : Int) := by simpa using (List.mem_filter.1 hk).2
        exact List.mem_map.2 ⟨((k : Int), (L ((k : Int).toNat / 8) ((k : Int).toNat % 8)).d), (h.mem _).2 ⟨hr, rfl⟩, rfl⟩
      · intro hx
        obtain ⟨p, hp, rfl⟩ := List.mem_map.1 hx
        have hr := ((h.mem p).1 hp).1
        have hb := rc_bd hc hr
        refine List.mem_map.2 ⟨p.1.toNat, List.mem_filter.2 ⟨List.mem_range.2 (by omega), ?_⟩, by omega⟩
        rw [Int.toNat_of_nonneg hb.1]
        exact decide_eq_true hr
  have := h1.length_eq
  rw [List.length_map, List.length_map] at this
  exact this
set_option maxRecDepth 100000 in
set_option maxHeartbeats 8000000 in
theorem walk_HeapLists (v : Value) (cl : List Cl) (w : World) (hq : IsCls w v cl) :
    Calls Try.prog 7 #[v] w fun e w' => e = .returned (.bool true) ∧ Below w.heap.size w w' := by
  have CAT := Lib.hid hq.at_; have CBD := Lib.hid hq.bd
  obtain ⟨a, c, rfl, -⟩ := CAT.out
  have hl0 := hq.len
  obtain ⟨len, hlen⟩ : ∃ len, len = cl.length := ⟨_, rfl⟩
  have HLN := Lib.hid hlen
  rw [← hlen] at hl0 ⊢
  have LM := Lib.hid (show len ≤ 9223372036854775807 by simp only [maxLen] at hl0; omega)
  clear hq hlen hl0
  have CA := Lib.hid (awake15_any w)
  go_enter Try.func7, Try.ntmps7
  go_wp2_with fail
  refine CA.out.mono ?_
  rintro e w1 ⟨rfl, hb⟩
  have B1 := Lib.hid hb
  clear hb CA
  have CM := memory_good 40 w1 (by omega) (by omega)
  rw [show ((40 : Nat) : Int) = 40 from rfl] at CM
  have CM := Lib.hid CM
  go_wp2_with fail
  refine CM.out.mono ?_
  rintro e w2 ⟨gs, r, rfl, hS, hb⟩
  have S2 := Lib.hid (show Sh w2 w.heap.size gs r (List.replicate 40 Pg.zero) from ⟨hS.box, hS.row, hS.one, hS.most, Nat.le_trans B1.out.size hS.bg, Nat.le_trans B1.out.size hS.br⟩)
  have B2 := Lib.hid (below_then B1.out hb B1.out.size)
  clear hS hb CM B1
  as_aux_lemma =>
    go_wp2_with fail
    refine (ss_new S2.out B2.out.size).mono ?_
    rintro e w3 ⟨g, b, rfl, hs, hb, -, -⟩
    have V3 := Lib.hid (sv_zero hs)
    have B3 := Lib.hid (below_then B2.out hb B2.out.size)
    clear hs hb S2 B2
    as_aux_lemma =>
      by_cases c100 : (100 : Int) < (len : Int)
      · clear V3
        go_wp2
        go_ret
        exact ⟨rfl, B3.out⟩
      have c100n : ¬ 100 < len := by omega
      have LL := Lib.hid (show len ≤ 100 by omega)
      have CF := Lib.hid (format_good V3.out (by omega) 40 (by omega) (by omega) (by decide))
      rw [show ((40 : Nat) : Int) = 40 from rfl] at CF
      go_wp2_with fail
      refine CF.out.mono ?_
      rintro e w4 ⟨rfl, hs, hg⟩
      have V4 := Lib.hid (show SV w4 w.heap.size g b gs r 40 2 pz (pv ((40 : Nat) : Int)) from hs)
      have B4 := Lib.hid (bl_grow B3.out hg (fun k hk => by cases hk; exact V3.out.b_ge) B3.out.size)
      clear hs hg CF V3 B3
      as_aux_lemma =>
        have CK := Lib.hid (make_heap V4.out (n := 40) (by omega) (by omega) (by omega) (by decide))
        go_wp2_with fail
        refine CK.out.mono ?_
        rintro e w5 ⟨rfl, pg5, hs, hc, hg⟩
        have V5 := Lib.hid hs; have H5 := Lib.hid hc
        have B5 := Lib.hid (bl_grow B4.out hg (fun k hk => by cases hk; exact V4.out.b_ge) B4.out.size)
        clear hs hc hg CK V4 B4 c100 c100n
        as_aux_lemma =>
          have CD := Lib.hid (land_full V5.out B5.out 0)
          go_wp2_with fail
          refine CD.out.mono ?_
          rintro e w6 ⟨rfl, hs, hb, -⟩
          rw [landed_zero] at hs
          have V6 := Lib.hid hs; have B6 := Lib.hid hb
          clear hs hb CD V5 B5
          as_aux_lemma =>
            go_wp2_with fail
            go_loopw [43] (fun i wr => ∃ (k : Nat) (pg : Nat → Pg) (ch : List Nat) (L : Nat → Nat → Ce), k ≤ len ∧ i = .int .i64 k ∧ SV wr w.heap.size g b gs r 40 0 pg pg ∧ Hc pg 40 ch L ∧ Below w.heap.size w wr) (fun i _ => len - (intOf i).toNat)
            case atStart => exact ⟨0, pg5, [2], L0, Nat.zero_le _, rfl, V6.out, H5.out, B6.out⟩
            case round =>
              clear V6 H5 B6
              obtain ⟨k, pg, ch, L, hk, rfl, hs, hc, hb⟩ := hrel
              have V := Lib.hid hs; have HC := Lib.hid hc; have BW := Lib.hid hb
              clear hs hc hb
              by_cases hlt : k < len
              · have HLT := Lib.hid hlt
                have hkb : k < 9223372036854775807 := by have := LM.out; omega
                have hkc : k < cl.length := by rw [← HLN.out]; exact hlt
                obtain ⟨cc, hcc⟩ : ∃ cc, cc = cl[k] := ⟨_, rfl⟩
                have OK := Lib.hid ((CBD.out _ (List.getElem_mem hkc)).below BW.out (Nat.le_refl _))
                obtain ⟨a', c', e1, hat⟩ := CAT.out.below BW.out
                obtain ⟨b1, off, e2, hb1, hra⟩ := hat (by omega)
                rw [← HLN.out] at e1
                obtain ⟨rfl, rfl⟩ : a = some ⟨b1, off, none⟩ ∧ c = c' := by rw [e2] at e1; simpa using e1
                have RK := Lib.hid (hra k cl[k] (List.getElem?_eq_getElem hkc))
                rw [← hcc] at OK RK
                clear e1 hat e2 hb1 hra hcc hkc
                have V1 := Lib.hid (V.out.alloc (.cells cc.cs 42))
                have B1 := Lib.hid (BW.out.alloc BW.out.size (.cells cc.cs 42))
                have K1 := Lib.hid (Bk.new wr 42 cc.cs)
                have O1 := Lib.hid (OK.out.below ((Below.refl w.heap.size wr).alloc BW.out.size (.cells cc.cs 42)) (Nat.le_refl _))
                clear V BW
                as_aux_lemma =>
                  go_upto_region 12 with (first | (refine load_cl_off rfl _ rfl b1 off k cc rfl RK.out ?_) | (refine store_cl_new rfl _ _ rfl cc OK.out.sl rfl rfl ?_))
                  generalize wr.alloc (.cells cc.cs 42) = w7 at *
                  clear OK RK
                  obtain ⟨G, hG⟩ : ∃ G, G = wr.heap.size := ⟨_, rfl⟩
                  rw [← hG] at K1 ⊢
                  clear hG
                  have CO := Lib.hid (do_any V1.out (n := 40) (by omega) HC.out B1.out cc O1.out)
                  clear V1 HC B1 O1
                  as_aux_lemma =>
                    go_wp2_with (refine load_cl rfl _ rfl G cc rfl K1.out ?_)
                    refine CO.out.mono ?_
                    rintro e w8 ⟨u, er, pg', ch', L', rfl, hs, hc, -, hb, -⟩
                    have V8 := Lib.hid hs; have H8 := Lib.hid hc; have B8 := Lib.hid hb
                    clear hs hc hb CO K1
                    go_wp2
                    go_roundw
                    case rel => exact ⟨k + 1, pg', ch', L', by have := HLT.out; omega, by go_num, V8.out, H8.out, B8.out⟩
                    case measure => have := HLT.out; simp [intOf]; omega
              · obtain rfl : k = len := by omega
                clear hlt hk CAT CBD
                have CLS := Lib.hid (list_any V.out (n := 40) (by omega) HC.out)
                as_aux_lemma =>
                  go_wp2_with fail
                  refine CLS.out.mono ?_
                  rintro e w2 ⟨x, l, rfl, hl, h6, ho, hb⟩
                  obtain ⟨xa, xc, rfl⟩ := ow_slice ho
                  have V2 := Lib.hid (V.out.kept hb); have B2 := Lib.hid (below_then BW.out hb BW.out.size); have LP := Lib.hid hl; have OW := Lib.hid ho
                  obtain ⟨m, hm⟩ : ∃ m, m = l.length := ⟨_, rfl⟩
                  have HM := Lib.hid hm
                  have M6 := Lib.hid h6
                  rw [← hm] at ho M6
                  rw [← hm]
                  have m6 : m ≤ 6144 := M6.out
                  have SZW := Lib.hid BW.out.size
                  clear hl h6 ho hb hm CLS V BW
                  as_aux_lemma =>
                    go_wp2_with fail
                    go_loopw [10, 61] (fun lst i wr => ∃ k : Nat, k ≤ m ∧ i = .int .i64 k ∧ lst = .int .i64 (lastP l k) ∧ SV wr w.heap.size g b gs r 40 0 pg pg ∧ Below w.heap.size w wr ∧ wr.ownsRow w.heap.size 57 3 (.slice xa m xc) m (pairL l)) (fun _ i _ => m - (intOf i).toNat)
                    case atStart => exact ⟨0, Nat.zero_le _, rfl, rfl, V2.out, B2.out, by have h := OW.out; rw [← HM.out] at h; exact ow_mono h SZW.out⟩
                    case round =>
                      clear V2 B2 OW SZW
                      obtain ⟨k, hk, rfl, rfl, hs, hb, ho⟩ := hrel
                      by_cases hlt : k < m
                      · have HLT := Lib.hid hlt
                        have hkb : k < 9223372036854775807 := by have := M6.out; omega
                        have hkl : k < l.length := by rw [← HM.out]; exact hlt
                        obtain ⟨g2, cap2, e2, hb2, hl2, hr2⟩ := pair_at (by rw [← HM.out]; exact ho) k hkl
                        rw [← HM.out] at e2
                        obtain ⟨rfl, rfl⟩ : xa = some ⟨g2, 0, none⟩ ∧ xc = cap2 := by simpa using e2
                        have hrc := (LP.out.mem l[k]).1 (List.getElem_mem hkl)
                        have HRC := Lib.hid hrc
                        have hlast := last_lt LP.out k hkl
                        have LST := Lib.hid (show lastP l (k + 1) = l[k].1 from by show (l.getD k (0, ⟨#[]⟩)).1 = _; rw [List.getD_eq_getElem?_getD, List.getElem?_eq_getElem hkl]; rfl)
                        have hbd := rc_bd HC.out hrc.1
                        obtain ⟨pr, hpr⟩ : ∃ pr, pr = l[k] := ⟨_, rfl⟩
                        rw [← hpr] at hr2 HRC hlast LST hbd
                        obtain ⟨lst, hlst⟩ : ∃ lst, lst = lastP l k := ⟨_, rfl⟩
                        rw [← hlst] at hlast ⊢
                        have RK := Lib.hid hr2
                        have hnl : ¬ pr.1 ≤ lst := by omega
                        have V1 := Lib.hid (hs.alloc (.cells #[.string ⟨#[]⟩, .int .i64 pr.1, .string pr.2] 57))
                        have B1 := Lib.hid (hb.alloc hb.size (.cells #[.string ⟨#[]⟩, .int .i64 pr.1, .string pr.2] 57))
                        have K1 := Lib.hid (Bk.new wr 57 #[.string ⟨#[]⟩, .int .i64 pr.1, .string pr.2])
                        have O1 := Lib.hid (ho.alloc (.cells #[.string ⟨#[]⟩, .int .i64 pr.1, .string pr.2] 57))
                        have HBD := Lib.hid hbd
                        clear hs hb ho e2 hb2 hl2 hr2 hrc hpr hlst hkl hbd hlast
                        as_aux_lemma =>
                          go_upto_region 21 with (refine load_pair rfl _ rfl g2 (k * 3) pr rfl RK.out ?_)
                          generalize wr.alloc (.cells #[.string ⟨#[]⟩, .int .i64 pr.1, .string pr.2] 57) = w7 at *
                          obtain ⟨P, hP⟩ : ∃ P, P = wr.heap.size := ⟨_, rfl⟩
                          rw [← hP] at K1 ⊢
                          clear hP RK
                          have x1 : w7.cell? ⟨P, 1, none⟩ = some (.int .i64 pr.1) := K1.out.cell 1
                          have CR := Lib.hid (read_any V1.out (n := 40) (by omega) HC.out pr.1 (by have := HBD.out; omega))
                          as_aux_lemma =>
                            go_wp2_with fail
                            refine CR.out.mono ?_
                            rintro e w8 ⟨⟨-, rfl⟩ | ⟨hno, -⟩, hb⟩
                            · rw [← HRC.out.2]
                              have K8 := Lib.hid (K1.out.kept hb); have V8 := Lib.hid (V1.out.kept hb); have B8 := Lib.hid (below_then B1.out hb B1.out.size); have O8 := Lib.hid (ow_kept O1.out hb)
                              have y0 : w8.cell? ⟨P, 0, none⟩ = some (.string ⟨#[]⟩) := K8.out.cell 0
                              have y1 : w8.cell? ⟨P, 1, none⟩ = some (.int .i64 pr.1) := K8.out.cell 1
                              have y2 : w8.cell? ⟨P, 2, none⟩ = some (.string pr.2) := K8.out.cell 2
                              have e8 : (pr.2.toList == pr.2.toList) = true := by simp
                              clear hb x1 K1 K8 V1 B1 O1 CR HRC HBD
                              go_wp2
                              go_roundw
                              case rel => exact ⟨k + 1, by have := HLT.out; omega, by go_num, by rw [LST.out], V8.out, B8.out, O8.out⟩
                              case measure => have := HLT.out; simp [intOf]; omega
                            · exact absurd HRC.out.1 hno
                      · obtain rfl : k = m := by omega
                        have V := Lib.hid hs; have BW := Lib.hid hb
                        clear hs hb ho hlt hk
                        have CNT := Lib.hid (cnt_all HC.out LP.out)
                        rw [← HM.out] at CNT
                        as_aux_lemma =>
                          go_wp2_with fail
                          go_loopw [15, 16] (fun nn i wr => ∃ q : Nat, q ≤ 320 ∧ i = .int .i64 q ∧ nn = .int .i64 (cntL L q : Nat) ∧ SV wr w.heap.size g b gs r 40 0 pg pg ∧ Below w.heap.size w wr) (fun _ i _ => 320 - (intOf i).toNat)
                          case atStart => exact ⟨0, Nat.zero_le _, rfl, rfl, V.out, BW.out⟩
                          case round =>
                            clear V BW
                            obtain ⟨q, hq, rfl, rfl, hs, hb⟩ := hrel
                            have V := Lib.hid hs; have BW := Lib.hid hb
                            clear hs hb
                            have hcl := cnt_le L q
                            have CS := Lib.hid (cnt_succ L q)
                            obtain ⟨cn, hcn⟩ : ∃ cn, cn = cntL L q := ⟨_, rfl⟩
                            rw [← hcn] at CS hcl ⊢
                            have HCN := Lib.hid hcn
                            clear hcn
                            by_cases hlq : q < 320
                            · have HLQ := Lib.hid hlq
                              have CR := Lib.hid (read_any V.out (n := 40) (by omega) HC.out (q : Int) (by omega))
                              as_aux_lemma =>
                                go_wp2_with fail
                                refine CR.out.mono ?_
                                rintro e w8 ⟨⟨hr, rfl⟩ | ⟨hr, rfl⟩, hb⟩
                                · have V8 := Lib.hid (V.out.kept hb); have B8 := Lib.hid (below_then BW.out hb BW.out.size)
                                  have C1 := Lib.hid (show cntL L (q + 1) = cn + 1 from by rw [CS.out, if_pos hr])
                                  clear hb hr CR V BW
                                  go_wp2
                                  go_roundw
                                  case rel => exact ⟨q + 1, by have := HLQ.out; omega, by go_num, by rw [C1.out]; go_num, V8.out, B8.out⟩
                                  case measure => have := HLQ.out; simp [intOf]; omega
                                · have V8 := Lib.hid (V.out.kept hb); have B8 := Lib.hid (below_then BW.out hb BW.out.size)
                                  have C1 := Lib.hid (show cntL L (q + 1) = cn from by rw [CS.out, if_neg hr]; rfl)
                                  clear hb hr CR V BW
                                  go_wp2
                                  go_roundw
                                  case rel => exact ⟨q + 1, by have := HLQ.out; omega, by go_num, by rw [C1.out], V8.out, B8.out⟩
                                  case measure => have := HLQ.out; simp [intOf]; omega
                            · obtain rfl : q = 320 := by omega
                              obtain rfl : cn = k := by rw [HCN.out]; exact CNT.out
                              clear hlq hq CNT CS HC LP
                              go_wp2
                              go_ret
                              exact ⟨rfl, BW.out⟩
end Go.Proofs.Ytdhfcjplnbnkdaa
