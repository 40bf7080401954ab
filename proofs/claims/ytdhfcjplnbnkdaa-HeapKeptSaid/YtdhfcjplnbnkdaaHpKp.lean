/- HeapKept. -/
import Derived.Test.YtdhfcjplnbnkdaaHpLs
set_option linter.unusedVariables false
set_option linter.unusedSimpArgs false
namespace Go.Proofs.Ytdhfcjplnbnkdaa
open Go.RowKit Go.Maps

theorem ow_oth {w w' : World} {b r : Nat} {base : Nat} {e : TypeId} {size : Nat} {v : Value} {n : Nat} {xs : List Value} (h : w.ownsRow base e size v n xs) (ho : Oth w w' b r) (h1 : b < base) (h2 : r < base) : w'.ownsRow base e size v n xs :=
  ow_same h fun k hk => ho.2 k (ow_blk h hk).2.1 (by have := (ow_blk h hk).1; omega) (by have := (ow_blk h hk).1; omega)
theorem ins_two {w3 w4 : World} {B g b gs r N n : Nat} {pg : Nat → Pg} {ch : List Nat} {L : Nat → Nat → Ce} (h : SV w3 B g b gs r N 0 pg pg) {X : Prop} {val : ByteArray} {m : Nat} {f : Nat → Int} {e : Ending} (hp : InsPost X w3 B g b gs r N 0 n pg ch L val m f e w4) :
    (∃ (er : Int) (M' : Nat) (pg' : Nat → Pg), er ≠ 0 ∧ e = .returned (.tuple #[.int .i64 0, .agg ud0.cs, .int .i64 er]) ∧ SV w4 B g b gs r N M' pg pg' ∧ w3.grownBy w4 (some b)) ∨
    (∃ (p s M' : Nat) (pg' : Nat → Pg) (ch' : List Nat), s < 6 ∧ p < n ∧ (L p s).st ≠ 1 ∧ ¬ onK m f ((p : Int) * 8 + (s : Int)) ∧ e = .returned (.tuple #[.int .i64 ((p : Int) * 8 + (s : Int)), .agg (udC p s (L p s)).cs, .int .i64 0]) ∧ SV w4 B g b gs r N M' pg pg' ∧ Hc pg' n ch' (putL L p s ⟨1, val⟩) ∧ w3.grownBy w4 (some b)) := by
  rcases hp with ⟨-, rfl, hb⟩ | ⟨-, rfl, -, -, M', pg', ch', -, hs, -, hg⟩ | ⟨p, s, -, hs6, hpn, hst, hnk, rfl, -, M', pg', ch', -, -, hs, hc', hg⟩
  · exact .inl ⟨2, 0, pg, by decide, rfl, h.kept hb, only_below hb _⟩
  · exact .inl ⟨140, M', pg', by decide, rfl, hs, hg⟩
  · exact .inr ⟨p, s, M', pg', ch', hs6, hpn, hst, hnk, rfl, hs, hc', hg⟩
set_option maxRecDepth 100000 in
set_option maxHeartbeats 8000000 in
theorem walk_HeapKept (v : Value) (cl : List Cl) (kv : Value) (q : Slq) (w : World) (hq : IsCls w v cl) (hkq : kv = .slice q.a q.len q.cap ∧ q.len ≤ q.cap ∧ q.cap ≤ maxLen ∧ ∃ f : Nat → Int, Row w w.heap.size .i64 kv q.len f ∧ ∀ i, i < q.len → -9223372036854775808 ≤ f i ∧ f i ≤ 9223372036854775807) :
    Calls Try.prog 5 #[v, kv] w fun e w' => e = .returned (.bool true) ∧ Below w.heap.size w w' := by
  have CAT := Lib.hid hq.at_; have CBD := Lib.hid hq.bd
  obtain ⟨a, c, rfl, -⟩ := CAT.out
  have hl0 := hq.len
  obtain ⟨len, hlen⟩ : ∃ len, len = cl.length := ⟨_, rfl⟩
  have HLN := Lib.hid hlen
  rw [← hlen] at hl0 ⊢
  have LM := Lib.hid (show len ≤ 9223372036854775807 by simp only [maxLen] at hl0; omega)
  clear hq hlen hl0
  obtain ⟨rfl, hle, hmx, f, hrow, hfb⟩ := hkq
  have ROW := Lib.hid hrow
  obtain ⟨km, hkm⟩ : ∃ km, km = q.len := ⟨_, rfl⟩
  obtain ⟨qa, hqa⟩ : ∃ qa, qa = q.a := ⟨_, rfl⟩
  obtain ⟨qc, hqc⟩ : ∃ qc, qc = q.cap := ⟨_, rfl⟩
  rw [← hkm, ← hqa, ← hqc] at ROW
  have KM := Lib.hid (show km ≤ 9223372036854775807 by simp only [maxLen] at hmx; omega)
  rw [← hkm, ← hqa, ← hqc]
  clear hrow hfb hle hmx hkm hqa hqc
  have CA := Lib.hid (awake15_any w)
  go_enter Try.func5, Try.ntmps5
  go_wp2_with fail
  refine CA.out.mono ?_
  rintro e w1 ⟨rfl, hb⟩
  have B1 := Lib.hid hb
  clear hb CA
  have CM := memory_good 40 w1 (by omega) (by omega)
  rw [show ((40 : Nat) : Int) = 40 from rfl] at CM
  have CM := Lib.hid CM
  go_wp2_with fail
  refine CM.out.mono ?_
  rintro e w2 ⟨gs, r, rfl, hS, hb⟩
  have S2 := Lib.hid (show Sh w2 w.heap.size gs r (List.replicate 40 Pg.zero) from ⟨hS.box, hS.row, hS.one, hS.most, Nat.le_trans B1.out.size hS.bg, Nat.le_trans B1.out.size hS.br⟩)
  have B2 := Lib.hid (below_then B1.out hb B1.out.size)
  clear hS hb CM B1
  as_aux_lemma =>
    go_wp2_with fail
    refine (ss_new S2.out B2.out.size).mono ?_
    rintro e w3 ⟨g, b, rfl, hs, hb, -, -⟩
    have V3 := Lib.hid (sv_zero hs)
    have B3 := Lib.hid (below_then B2.out hb B2.out.size)
    clear hs hb S2 B2
    as_aux_lemma =>
      have CF := Lib.hid (format_good V3.out (by omega) 40 (by omega) (by omega) (by decide))
      rw [show ((40 : Nat) : Int) = 40 from rfl] at CF
      go_wp2_with fail
      refine CF.out.mono ?_
      rintro e w4 ⟨rfl, hs, hg⟩
      have V4 := Lib.hid (show SV w4 w.heap.size g b gs r 40 2 pz (pv ((40 : Nat) : Int)) from hs)
      have B4 := Lib.hid (bl_grow B3.out hg (fun k hk => by cases hk; exact V3.out.b_ge) B3.out.size)
      clear hs hg CF V3 B3
      as_aux_lemma =>
        have CK := Lib.hid (make_heap V4.out (n := 40) (by omega) (by omega) (by omega) (by decide))
        go_wp2_with fail
        refine CK.out.mono ?_
        rintro e w5 ⟨rfl, pg5, hs, hc, hg⟩
        have V5 := Lib.hid hs; have H5 := Lib.hid hc
        have B5 := Lib.hid (bl_grow B4.out hg (fun k hk => by cases hk; exact V4.out.b_ge) B4.out.size)
        clear hs hc hg CK V4 B4
        as_aux_lemma =>
          have CD := Lib.hid (land_full V5.out B5.out 0)
          go_wp2_with fail
          refine CD.out.mono ?_
          rintro e w6 ⟨rfl, hs, hb, -⟩
          rw [landed_zero] at hs
          have V6 := Lib.hid hs; have B6 := Lib.hid hb
          clear hs hb CD V5 B5
          as_aux_lemma =>
            by_cases c100 : (100 : Int) < (len : Int)
            · clear V6 H5
              go_wp2
              go_ret
              exact ⟨rfl, B6.out⟩
            have c100n : ¬ 100 < len := by omega
            have LL := Lib.hid (show len ≤ 100 by omega)
            as_aux_lemma =>
              go_wp2_with fail
              go_loopw [43] (fun i wr => ∃ (k : Nat) (pg : Nat → Pg) (ch : List Nat) (L : Nat → Nat → Ce), k ≤ len ∧ i = .int .i64 k ∧ SV wr w.heap.size g b gs r 40 0 pg pg ∧ Hc pg 40 ch L ∧ Below w.heap.size w wr) (fun i _ => len - (intOf i).toNat)
              case atStart => exact ⟨0, pg5, [2], L0, Nat.zero_le _, rfl, V6.out, H5.out, B6.out⟩
              case round =>
                clear V6 H5 B6 c100 c100n
                obtain ⟨k, pg, ch, L, hk, rfl, hs, hc, hb⟩ := hrel
                have V := Lib.hid hs; have HC := Lib.hid hc; have BW := Lib.hid hb
                clear hs hc hb
                by_cases hlt : k < len
                · have HLT := Lib.hid hlt
                  have hkb : k < 9223372036854775807 := by have := LM.out; omega
                  have hkc : k < cl.length := by rw [← HLN.out]; exact hlt
                  obtain ⟨cc, hcc⟩ : ∃ cc, cc = cl[k] := ⟨_, rfl⟩
                  have OK := Lib.hid ((CBD.out _ (List.getElem_mem hkc)).below BW.out (Nat.le_refl _))
                  obtain ⟨a', c', e1, hat⟩ := CAT.out.below BW.out
                  obtain ⟨b1, off, e2, hb1, hra⟩ := hat (by omega)
                  rw [← HLN.out] at e1
                  obtain ⟨rfl, rfl⟩ : a = some ⟨b1, off, none⟩ ∧ c = c' := by rw [e2] at e1; simpa using e1
                  have RK := Lib.hid (hra k cl[k] (List.getElem?_eq_getElem hkc))
                  rw [← hcc] at OK RK
                  clear e1 hat e2 hb1 hra hcc hkc
                  have V1 := Lib.hid (V.out.alloc (.cells cc.cs 42))
                  have B1 := Lib.hid (BW.out.alloc BW.out.size (.cells cc.cs 42))
                  have K1 := Lib.hid (Bk.new wr 42 cc.cs)
                  have O1 := Lib.hid (OK.out.below ((Below.refl w.heap.size wr).alloc BW.out.size (.cells cc.cs 42)) (Nat.le_refl _))
                  have VN := Lib.hid V.out.gs_ne
                  clear V BW
                  as_aux_lemma =>
                    go_upto_region 14 with (first | (refine load_cl_off rfl _ rfl b1 off k cc rfl RK.out ?_) | (refine store_cl_new rfl _ _ rfl cc OK.out.sl rfl rfl ?_))
                    generalize wr.alloc (.cells cc.cs 42) = w7 at *
                    clear OK RK
                    obtain ⟨G, hG⟩ : ∃ G, G = wr.heap.size := ⟨_, rfl⟩
                    rw [← hG] at K1 ⊢
                    have GG := Lib.hid (show G ≠ b ∧ G ≠ r from by have := VN.out; rw [hG]; omega)
                    clear hG VN
                    have y0 : w7.cell? ⟨G, 0, none⟩ = some (.int .i64 cc.k) := K1.out.cell 0
                    by_cases kz : cc.k = 0
                    · rw [kz] at y0
                      have CLS := Lib.hid (list_any V1.out (n := 40) (by omega) HC.out)
                      clear kz
                      as_aux_lemma =>
                        go_wp2_with fail
                        refine CLS.out.mono ?_
                        rintro e w8 ⟨x, l, rfl, hl, h6, ho, hb⟩
                        obtain ⟨xa, xc, rfl⟩ := ow_slice ho
                        have V8 := Lib.hid (V1.out.kept hb); have B8 := Lib.hid (below_then B1.out hb B1.out.size); have LP := Lib.hid hl
                        have K8 := Lib.hid (K1.out.kept hb)
                        have GE := Lib.hid V1.out.gs_ne
                        have G7 := Lib.hid K1.out.lt
                        have BG := Lib.hid (show G ≠ b ∧ G ≠ r from by have := GG.out; exact this)
                        obtain ⟨lm, hlm⟩ : ∃ lm, lm = l.length := ⟨_, rfl⟩
                        have HLM := Lib.hid hlm
                        have OW := Lib.hid ho
                        rw [← hlm] at h6 ⊢
                        have M6 := Lib.hid h6
                        have y3 : w8.cell? ⟨G, 3, none⟩ = some (.string cc.v) := K8.out.cell 3
                        have CI := Lib.hid (insert_any V8.out (n := 40) (by omega) HC.out (by decide) cc.v _ km f KM.out (ROW.out.below B8.out (Nat.le_refl _)))
                        clear hl h6 ho hb hlm CLS V1 B1 K1 O1 y0
                        as_aux_lemma =>
                          go_wp2_with fail
                          refine CI.out.mono ?_
                          rintro e w9 hp
                          rcases ins_two V8.out hp with ⟨er, M', pg', hne, rfl, hs, hg⟩ | ⟨p, s, M', pg', ch', hs6, hpn, hst, hnk, rfl, hs, hc', hg⟩
                          · have hneb : (er == 0) = false := by simp [hne]
                            have B9 := Lib.hid ((bl_grow B8.out hg (fun k hk => by cases hk; exact V8.out.b_ge) B8.out.size).alloc (Nat.le_trans B8.out.size hg.size) (.cells ud0.cs 45))
                            have V9 := Lib.hid (hs.alloc (.cells ud0.cs 45))
                            have LE := Lib.hid (landed_ne hne pg pg')
                            clear hp hs hg CI V8 B8 K8 LP OW y3
                            as_aux_lemma =>
                              go_wp2_with (refine store_ud_new rfl _ _ rfl ud0 rfl rfl ?_; generalize w9.alloc (.cells ud0.cs 45) = w10 at *)
                              refine (land_full V9.out B9.out er).mono ?_
                              rintro e w11 ⟨rfl, hs, hb, -⟩
                              rw [LE.out] at hs
                              have V11 := Lib.hid hs; have B11 := Lib.hid hb
                              clear hs hb V9 B9 LE
                              go_wp2
                              go_roundw
                              case rel => exact ⟨k + 1, pg, ch, L, by have := HLT.out; omega, by go_num, V11.out, HC.out, B11.out⟩
                              case measure => have := HLT.out; simp [intOf]; omega
                          · obtain ⟨u, hu⟩ : ∃ u, u = udC p s (L p s) := ⟨_, rfl⟩
                            rw [← hu]
                            clear hu
                            have B9 := Lib.hid ((bl_grow B8.out hg (fun k hk => by cases hk; exact V8.out.b_ge) B8.out.size).alloc (Nat.le_trans B8.out.size hg.size) (.cells u.cs 45))
                            have V9 := Lib.hid (hs.alloc (.cells u.cs 45))
                            have K9 := Lib.hid ((K8.out.grown hg (fun e => BG.out.1 (by injection e))).alloc (.cells u.cs 45))
                            have O9 := Lib.hid ((ow_grown OW.out hg (fun j hj => by cases hj; exact GE.out.2.1)).alloc (.cells u.cs 45))
                            have HC9 := Lib.hid hc'
                            have NR := Lib.hid (show ¬ rcP L ((p : Int) * 8 + (s : Int)) from fun h => hst ((rcP_nat L p s hs6).1 h))
                            have YR := Lib.hid (show rcP (putL L p s ⟨1, cc.v⟩) ((p : Int) * 8 + (s : Int)) from (rcP_nat _ p s hs6).2 (by rw [putL_at]))
                            have YV := Lib.hid (show (putL L p s ⟨1, cc.v⟩ (((p : Int) * 8 + (s : Int)).toNat / 8) (((p : Int) * 8 + (s : Int)).toNat % 8)).d = cc.v from by
                              rw [show ((p : Int) * 8 + (s : Int)).toNat = p * 8 + s by omega, show (p * 8 + s) / 8 = p by omega, show (p * 8 + s) % 8 = s by omega, putL_at])
                            have NK := Lib.hid hnk
                            have IB := Lib.hid (show -9223372036854775808 ≤ (p : Int) * 8 + (s : Int) ∧ (p : Int) * 8 + (s : Int) ≤ 9223372036854775807 by omega)
                            obtain ⟨L2, hL2⟩ : ∃ L2, L2 = putL L p s ⟨1, cc.v⟩ := ⟨_, rfl⟩
                            rw [← hL2] at HC9 YR YV
                            obtain ⟨id, hid⟩ : ∃ id : Int, id = (p : Int) * 8 + (s : Int) := ⟨_, rfl⟩
                            rw [← hid] at NR YR YV NK IB ⊢
                            clear hp hs hg CI V8 B8 K8 OW y3 HC hc' hst hnk hL2 hid hs6 hpn
                            as_aux_lemma =>
                              go_wp2_with (refine store_ud_new rfl _ _ rfl u rfl rfl ?_; generalize w9.alloc (.cells u.cs 45) = w10 at *)
                              refine (land_full V9.out B9.out 0).mono ?_
                              rintro e w11 ⟨rfl, hs, hb, hoth⟩
                              rw [landed_zero] at hs
                              have V11 := Lib.hid hs; have B11 := Lib.hid hb; have K11 := Lib.hid (hoth.bk K9.out BG.out.1 BG.out.2); have O11 := Lib.hid (ow_oth O9.out hoth GE.out.2.1 GE.out.2.2.2)
                              clear hs hb V9 B9 K9 O9 hoth
                              as_aux_lemma =>
                                go_wp2_with fail
                                go_loopw [78] (fun i wr => ∃ t : Nat, t ≤ km ∧ i = .int .i64 t ∧ wr = w11) (fun i _ => km - (intOf i).toNat)
                                case atStart => exact ⟨0, Nat.zero_le _, rfl, rfl⟩
                                case round =>
                                  obtain ⟨t, ht, rfl, rfl⟩ := hrel
                                  by_cases hlk : t < km
                                  · have HLK := Lib.hid hlk
                                    have htb : t < 9223372036854775807 := by have := KM.out; omega
                                    obtain ⟨a', c', e1, -, hat⟩ := ROW.out.below B11.out (Nat.le_refl _)
                                    obtain ⟨b2, off2, e2, hb2, hra⟩ := hat (by omega)
                                    obtain ⟨rfl, rfl⟩ : qa = some ⟨b2, off2, none⟩ ∧ qc = c' := by rw [e2] at e1; simpa using e1
                                    have r0 := hra t hlk
                                    have hft : ¬ f t = id := fun e => NK.out ⟨t, hlk, e⟩
                                    have hftb : (f t == id) = false := by simp [hft]
                                    clear e1 hat e2 hb2 hra
                                    go_wp2
                                    go_roundw
                                    case rel => exact ⟨t + 1, by have := HLK.out; omega, by go_num, trivial⟩
                                    case measure => have := HLK.out; simp [intOf]; omega
                                  · obtain rfl : t = km := by omega
                                    clear hlk ht
                                    as_aux_lemma =>
                                      go_wp2_with fail
                                      go_loopw [88] (fun i wr => ∃ t : Nat, t ≤ lm ∧ i = .int .i64 t ∧ SV wr w.heap.size g b gs r 40 0 pg' pg' ∧ Below w.heap.size w wr ∧ Bk wr G 42 cc.cs ∧ wr.ownsRow w7.heap.size 57 3 (.slice xa lm xc) l.length (pairL l)) (fun i _ => lm - (intOf i).toNat)
                                      case atStart => exact ⟨0, Nat.zero_le _, rfl, V11.out, B11.out, K11.out, by rw [HLM.out]; exact O11.out⟩
                                      case round =>
                                        clear V11 B11 K11 O11
                                        obtain ⟨t, ht, rfl, hs, hb, hkk, ho⟩ := hrel
                                        by_cases hll : t < lm
                                        · have HLL := Lib.hid hll
                                          have htb : t < 9223372036854775807 := by have := M6.out; omega
                                          have hkl : t < l.length := by rw [← HLM.out]; exact hll
                                          obtain ⟨g2, cap2, e2, hb2, hl2, hr2⟩ := pair_at ho t hkl
                                          rw [← HLM.out] at e2
                                          obtain ⟨rfl, rfl⟩ : xa = some ⟨g2, 0, none⟩ ∧ xc = cap2 := by simpa using e2
                                          have hrc := ((LP.out.mem l[t]).1 (List.getElem_mem hkl)).1
                                          obtain ⟨pr, hpr⟩ : ∃ pr, pr = l[t] := ⟨_, rfl⟩
                                          rw [← hpr] at hr2 hrc
                                          have RK := Lib.hid hr2
                                          have hni : ¬ pr.1 = id := fun e => NR.out (by rw [← e]; exact hrc)
                                          have hnib : (pr.1 == id) = false := by simp [hni]
                                          have V1 := Lib.hid (hs.alloc (.cells #[.string ⟨#[]⟩, .int .i64 pr.1, .string pr.2] 57))
                                          have B1 := Lib.hid (hb.alloc hb.size (.cells #[.string ⟨#[]⟩, .int .i64 pr.1, .string pr.2] 57))
                                          have K1 := Lib.hid (Bk.new wr 57 #[.string ⟨#[]⟩, .int .i64 pr.1, .string pr.2])
                                          have KK1 := Lib.hid (hkk.alloc (.cells #[.string ⟨#[]⟩, .int .i64 pr.1, .string pr.2] 57))
                                          have O1 := Lib.hid (ho.alloc (.cells #[.string ⟨#[]⟩, .int .i64 pr.1, .string pr.2] 57))
                                          clear hs hb ho e2 hb2 hl2 hr2 hrc hpr hkl hkk
                                          as_aux_lemma =>
                                            go_upto_region 31 with (refine load_pair rfl _ rfl g2 (t * 3) pr rfl RK.out ?_)
                                            generalize wr.alloc (.cells #[.string ⟨#[]⟩, .int .i64 pr.1, .string pr.2] 57) = w12 at *
                                            obtain ⟨P, hP⟩ : ∃ P, P = wr.heap.size := ⟨_, rfl⟩
                                            rw [← hP] at K1 ⊢
                                            clear hP RK
                                            have x1 : w12.cell? ⟨P, 1, none⟩ = some (.int .i64 pr.1) := K1.out.cell 1
                                            go_wp2
                                            go_roundw
                                            case rel => exact ⟨t + 1, by have := HLL.out; omega, by go_num, V1.out, B1.out, KK1.out, O1.out⟩
                                            case measure => have := HLL.out; simp [intOf]; omega
                                        · obtain rfl : t = lm := by omega
                                          have VF := Lib.hid hs; have BF := Lib.hid hb; have KF := Lib.hid hkk
                                          clear hs hb hkk ho hll ht
                                          have CR := Lib.hid (read_any VF.out (n := 40) (by omega) HC9.out id IB.out)
                                          as_aux_lemma =>
                                            go_wp2_with fail
                                            refine CR.out.mono ?_
                                            rintro e w13 ⟨⟨-, rfl⟩ | ⟨hno, -⟩, hb⟩
                                            · rw [YV.out]
                                              have V13 := Lib.hid (VF.out.kept hb); have B13 := Lib.hid (below_then BF.out hb BF.out.size)
                                              have z3 : w13.cell? ⟨G, 3, none⟩ = some (.string cc.v) := (KF.out.kept hb).cell 3
                                              have e8 : (cc.v.toList == cc.v.toList) = true := by simp
                                              clear hb CR VF BF KF
                                              go_wp2
                                              go_roundw
                                              case rel => exact ⟨k + 1, pg', ch', L2, by have := HLT.out; omega, by go_num, V13.out, HC9.out, B13.out⟩
                                              case measure => have := HLT.out; simp [intOf]; omega
                                            · exact absurd YR.out hno
                    · have kzb : (cc.k == 0) = false := by simp [kz]
                      have CO := Lib.hid (do_any V1.out (n := 40) (by omega) HC.out B1.out cc O1.out)
                      clear V1 HC B1 O1
                      as_aux_lemma =>
                        go_wp2_with (refine load_cl rfl _ rfl G cc rfl K1.out ?_)
                        refine CO.out.mono ?_
                        rintro e w8 ⟨u, er, pg', ch', L', rfl, hs, hc, -, hb, -⟩
                        have V8 := Lib.hid hs; have H8 := Lib.hid hc; have B8 := Lib.hid hb
                        clear hs hc hb CO K1 y0
                        go_wp2
                        go_roundw
                        case rel => exact ⟨k + 1, pg', ch', L', by have := HLT.out; omega, by go_num, V8.out, H8.out, B8.out⟩
                        case measure => have := HLT.out; simp [intOf]; omega
                · obtain rfl : k = len := by omega
                  clear hlt hk CAT CBD V HC
                  go_wp2
                  go_ret
                  exact ⟨rfl, BW.out⟩
end Go.Proofs.Ytdhfcjplnbnkdaa
