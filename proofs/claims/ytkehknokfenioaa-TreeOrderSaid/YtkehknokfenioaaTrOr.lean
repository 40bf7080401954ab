/- Layer 16: TreeOrder. -/
import Derived.Test.YtkehknokfenioaaTrOrP
set_option linter.unusedVariables false
set_option linter.unusedSimpArgs false
namespace Go.Proofs.Ytkehknokfenioaa
open Go.RowKit Go.Maps

/-- A round's end. -/
def Fin16 (w : World) (U : Nat) (ks : List ByteArray) (v : Value) : Prop :=
  ∃ (pg : Nat → Pg) (n H : Nat) (ids : List Nat) (R : List (ByteArray × Ce)) (ff : Prop) (PB : Nat), Tl pg n H ids R ff ∧ (∀ x, x ∈ R ↔ LaidOf ks x) ∧ U < PB ∧ KOwn w PB v (rangeL R ⟨#[]⟩ 64)
theorem Fin16.kept {w w' : World} {U : Nat} {ks : List ByteArray} {v : Value} (h : Fin16 w U ks v) (hb : Below w.heap.size w w') : Fin16 w' U ks v := by
  obtain ⟨pg, n, H, ids, R, ff, PB, h1, h2, h3, h4⟩ := h
  exact ⟨pg, n, H, ids, R, ff, PB, h1, h2, h3, ow_kept h4 hb⟩
theorem Fin16.far {w : World} {U : Nat} {ks : List ByteArray} {v : Value} (h : Fin16 w U ks v) (i : Nat) (u : Value) : Fin16 (w.setCell ⟨U, i, none⟩ u) U ks v := by
  obtain ⟨pg, n, H, ids, R, ff, PB, h1, h2, h3, h4⟩ := h
  exact ⟨pg, n, H, ids, R, ff, PB, h1, h2, h3, ow_far h4 h3 u⟩
theorem laid_all {len : Nat} {ks : List ByteArray} (hl : len = ks.length) (turn : Int) (q : Nat) {R : List (ByteArray × Ce)} (h1 : ∀ x, x ∈ R → LaidOf ks x) (h2 : ∀ j, j < len → keyOk (ks.getD (sg len turn q j) ByteArray.empty) → (ks.getD (sg len turn q j) ByteArray.empty, (⟨1, dat (ks.getD (sg len turn q j) ByteArray.empty) eTx⟩ : Ce)) ∈ R) (x : ByteArray × Ce) : x ∈ R ↔ LaidOf ks x := by
  refine ⟨h1 x, fun ⟨a, b, c⟩ => ?_⟩
  obtain ⟨t, ht, e⟩ := List.getElem_of_mem a
  obtain ⟨j, hj, e2⟩ := sg_all (m := len) (by omega) turn q (t := t) (by omega)
  have := h2 j hj
  rw [e2] at this
  have e3 : ks.getD t ByteArray.empty = x.1 := by rw [List.getD_eq_getElem?_getD, List.getElem?_eq_getElem ht, e]; rfl
  rw [e3] at this
  have h4 := this b
  rw [← c] at h4
  exact h4
set_option maxRecDepth 100000 in
set_option maxHeartbeats 24000000 in
theorem walk_TreeOrder (v : Value) (ks : List ByteArray) (turn : Int) (w : World) (h : KsIn w v ks) (hn1 : -9223372036854775808 ≤ turn) (hn2 : turn ≤ 9223372036854775807) :
    Calls Try.prog 4 #[v, .int .i64 turn] w fun e w' => e = .returned (.bool true) ∧ Below w.heap.size w w' := by
  have CIN := Lib.hid h
  have CA := Lib.hid (awake16 w)
  have LM := Lib.hid h.1.1
  have TN := Lib.hid (And.intro hn1 hn2)
  obtain ⟨-, a, c, rfl, -⟩ := h.1
  obtain ⟨len, hlen⟩ : ∃ len, len = ks.length := ⟨_, rfl⟩
  have HLN := Lib.hid hlen
  rw [← hlen] at CIN LM ⊢
  clear h hlen
  go_enter Try.func4, Try.ntmps4
  go_wp2_with fail
  refine CA.out.mono ?_
  rintro e w1 ⟨rfl, hb⟩
  have B1 := Lib.hid hb
  have CI1 := Lib.hid (CIN.out.kept hb)
  clear hb CA CIN
  by_cases c60 : (60 : Int) < (len : Int)
  · --@aux
      go_wp2
      go_ret
      exact ⟨rfl, B1.out⟩
  have LL := Lib.hid (show len ≤ 60 by omega)
  have c60n : ¬ 60 < len := by omega
  have KU := Lib.hid (Bk.new w1 46 #[.slice none 0 0, .slice none 0 0])
  have B2 := Lib.hid ((Below.refl w1.heap.size w1).alloc (Nat.le_refl _) (.cells #[.slice none 0 0, .slice none 0 0] 46))
  as_aux_lemma =>
      go_upto_region 6 with fail
      change Code.wp _ _ _ _ (w1.alloc (.cells #[.slice none 0 0, .slice none 0 0] 46))
      generalize w1.alloc (.cells #[.slice none 0 0, .slice none 0 0] 46) = w2 at *
      obtain ⟨U, hU⟩ : ∃ U, U = w1.heap.size := ⟨_, rfl⟩
      rw [← hU] at KU ⊢
      have UB := Lib.hid (show w1.heap.size ≤ U from by omega)
      clear hU c60 c60n
      go_wp2_with fail
      go_loopw [21] (fun i wr => ∃ (q : Nat) (v0 v1 : Value), q ≤ 2 ∧ i = .int .i64 q ∧ Below w1.heap.size w1 wr ∧ Bk wr U 46 #[v0, v1] ∧ (1 ≤ q → Fin16 wr U ks v0) ∧ (2 ≤ q → Fin16 wr U ks v1)) (fun i _ => 2 - (intOf i).toNat)
      case atStart => exact ⟨0, _, _, by omega, rfl, B2.out, KU.out, fun h => by omega, fun h => by omega⟩
      case round =>
        clear KU B2
        obtain ⟨q, v0, v1, hq, rfl, hb, hu, f0, f1⟩ := hrel
        have BW := Lib.hid hb; have KU := Lib.hid hu; have F0 := Lib.hid f0; have F1 := Lib.hid f1
        clear hb hu f0 f1
        by_cases hq2 : q < 2
        · have HQ2 := Lib.hid hq2
          have CV := Lib.hid (volume_any 100 (by decide) (by decide) wr)
          rw [show ((100 : Nat) : Int) = 100 from rfl] at CV
          have CI2 := Lib.hid (CI1.out.kept BW.out)
          as_aux_lemma =>
              go_wp2_with fail
              refine CV.out.mono ?_
              rintro e w3 ⟨g, b, gs, r, pg, rfl, hs, ht, hb⟩
              have BB := Lib.hid (show wr.heap.size ≤ b ∧ wr.heap.size ≤ r from ⟨hs.b_ge, hs.r_ge⟩)
              have V3 := Lib.hid hs; have T3 := Lib.hid ht; have B3 := Lib.hid hb
              clear hs ht hb CV hq hq2
              as_aux_lemma =>
                  go_wp2_with fail
                  go_loopw [33] (fun i wi => ∃ (k M H : Nat) (pg : Nat → Pg) (ids : List Nat) (R : List (ByteArray × Ce)), k ≤ len ∧ i = .int .i64 k ∧ M ≤ 5 + 40 * k ∧ SV wi wr.heap.size g b gs r 100 M pg pg ∧ Tl pg 100 H ids R True ∧ R.length ≤ k ∧ (∀ x, x ∈ R → LaidOf ks x) ∧ (∀ j, j < k → keyOk (ks.getD (sg len turn q j) ByteArray.empty) → (ks.getD (sg len turn q j) ByteArray.empty, (⟨1, dat (ks.getD (sg len turn q j) ByteArray.empty) eTx⟩ : Ce)) ∈ R) ∧ Below wr.heap.size wr wi) (fun i _ => len - (intOf i).toNat)
                  case atStart => exact ⟨0, _, _, pg, _, [], Nat.zero_le _, rfl, Nat.le_refl _, V3.out, T3.out, Nat.le_refl _, (fun x hx => (by cases hx)), (fun j hj => absurd hj (Nat.not_lt_zero j)), B3.out⟩
                  case round =>
                    clear V3 T3 B3
                    obtain ⟨k, M, H, pg, ids, R, hk, rfl, hM, hs, ht, hR, hL, hA, hb⟩ := hrel
                    have V := Lib.hid hs; have HT := Lib.hid ht; have BI := Lib.hid hb; have HM := Lib.hid hM; have HR := Lib.hid hR; have HL := Lib.hid hL; have HA := Lib.hid hA
                    clear hs ht hb hM hR hL hA
                    by_cases hlt : k < len
                    · have HLT := Lib.hid hlt
                      have hkb : k < 9223372036854775807 := by have := LL.out; omega
                      obtain ⟨⟨-, a', c', e1, hat⟩, hsz⟩ := CI2.out.kept BI.out
                      obtain ⟨b1, off, e2, hb1, hra⟩ := hat.resolve_left (fun e => by rw [HLN.out, e] at hlt; exact absurd hlt (Nat.not_lt_zero k))
                      rw [← HLN.out] at e1
                      obtain ⟨rfl, rfl⟩ : a = some ⟨b1, off, none⟩ ∧ c = c' := by rw [e2] at e1; simpa using e1
                      obtain ⟨s, hsg⟩ : ∃ s, s = sg len turn q k := ⟨_, rfl⟩
                      have hsl : s < len := by rw [hsg]; exact sg_lt (by omega) turn q hlt
                      have HSL := Lib.hid hsl
                      have x0 := hra s (by rw [← HLN.out]; exact hsl)
                      have hkz := hsz (ks.getD s ByteArray.empty) (by rw [List.getD_eq_getElem?_getD, List.getElem?_eq_getElem (by rw [← HLN.out]; exact hsl)]; exact List.getElem_mem _)
                      have hmem : ks.getD s ByteArray.empty ∈ ks := by rw [List.getD_eq_getElem?_getD, List.getElem?_eq_getElem (by rw [← HLN.out]; exact hsl)]; exact List.getElem_mem _
                      have HSG := Lib.hid hsg
                      obtain ⟨ky, hky⟩ : ∃ ky, ky = ks.getD s ByteArray.empty := ⟨_, rfl⟩
                      have HKY := Lib.hid hky
                      rw [← hky] at x0 hkz hmem
                      have HMEM := Lib.hid hmem
                      have CP := Lib.hid (tl_lay V.out (Nat.le_refl _) HT.out (by have := HM.out; have := HLT.out; have := LL.out; unfold maxLen; omega) (fun x hx => (HL.out x hx).2.2) (by have := HR.out; have := HLT.out; have := LL.out; omega) (by decide) ky hkz rfl)
                      clear hat hsz e1 e2 hra hb1 hsg hky hkz hmem V
                      have hsb : (s : Int) < (len : Int) := by omega
                      have hsn : ¬ (s : Int) < 0 := by omega
                      rcases (show q = 0 ∨ q = 1 by have := HQ2.out; omega) with hq0 | hq1
                      · have es : s = k := by rw [HSG.out, hq0]; rfl
                        have hqb : ((q : Int) == 1) = false := by rw [hq0]; rfl
                        have hqn : ¬ (q : Int) = 1 := by omega
                        clear hq0
                        subst es
                        as_aux_lemma =>
                            go_wp2_with fail
                            refine CP.out.mono ?_
                            rintro e w8 ⟨u, er, rfl, her, pg', H', ids', R', hs, ht, hm, hl, hg⟩
                            have V9 := Lib.hid (hs.alloc (.cells u.cs 34)); have T9 := Lib.hid ht
                            have B9 := Lib.hid ((bl_grow BI.out hg (fun k hk => by cases hk; exact BB.out.1) BI.out.size).alloc (Nat.le_trans BI.out.size hg.size) (.cells u.cs 34))
                            have HR2 := Lib.hid (show R'.length ≤ s + 1 from Nat.le_trans hl (by have := HR.out; omega))
                            have HL2 := Lib.hid (show ∀ x, x ∈ R' → LaidOf ks x from fun x hx => by
                              rcases (hm x).1 hx with h | ⟨h1, rfl⟩
                              · exact HL.out x h
                              · exact ⟨HMEM.out, h1, rfl⟩)
                            have HA2 := Lib.hid (show ∀ j, j < s + 1 → keyOk (ks.getD (sg len turn q j) ByteArray.empty) → (ks.getD (sg len turn q j) ByteArray.empty, (⟨1, dat (ks.getD (sg len turn q j) ByteArray.empty) eTx⟩ : Ce)) ∈ R' from fun j hj hkj => by
                              by_cases e : j < s
                              · exact (hm _).2 (.inl (HA.out j e hkj))
                              · obtain rfl : j = s := by omega
                                rw [← HSG.out, ← HKY.out] at hkj ⊢
                                exact (hm _).2 (.inr ⟨hkj, rfl⟩))
                            clear hs ht hm hl hg CP BI HR HL HA x0
                            as_aux_lemma =>
                                go_wp2_with (refine store_ud_new rfl _ _ rfl u rfl rfl ?_; generalize w8.alloc (.cells u.cs 34) = w9 at *)
                                refine (tland_any V9.out B9.out er).mono ?_
                                rintro e w10 ⟨rfl, hs, hb, -⟩
                                have V10 := Lib.hid hs; have B10 := Lib.hid hb
                                generalize landed er pg pg' = pgl at *
                                clear hs hb V9 B9
                                rcases her with rfl | rfl | rfl
                                · go_wp2
                                  go_roundw
                                  case rel => exact ⟨s + 1, M + 40, H', pgl, ids', R', by have := HLT.out; omega, by go_num, by have := HM.out; omega, V10.out, T9.out, HR2.out, HL2.out, HA2.out, B10.out⟩
                                  case measure => have := HLT.out; simp [intOf]; omega
                                · go_wp2
                                  go_roundw
                                  case rel => exact ⟨s + 1, M + 40, H', pgl, ids', R', by have := HLT.out; omega, by go_num, by have := HM.out; omega, V10.out, T9.out, HR2.out, HL2.out, HA2.out, B10.out⟩
                                  case measure => have := HLT.out; simp [intOf]; omega
                                · go_wp2
                                  go_roundw
                                  case rel => exact ⟨s + 1, M + 40, H', pgl, ids', R', by have := HLT.out; omega, by go_num, by have := HM.out; omega, V10.out, T9.out, HR2.out, HL2.out, HA2.out, B10.out⟩
                                  case measure => have := HLT.out; simp [intOf]; omega
                      · have TB := tmod_bd turn (show 0 < len by omega)
                        have TB2 := tmod_bd ((k : Int) + turn.tmod len) (show 0 < len by omega)
                        have hm0 : ¬ (len : Int) = 0 := by omega
                        have hqb : ((q : Int) == 1) = true := by rw [hq1]; rfl
                        have hqn : (q : Int) = 1 := by omega
                        have AB := sgA_bd (m := len) (by omega) turn k
                        obtain ⟨z, hz⟩ : ∃ z : Nat, (z : Int) = sgA len turn k := ⟨(sgA len turn k).toNat, by omega⟩
                        have EW := Lib.hid (show (wrap64 ((wrap64 (↑k + turn.tmod ↑len)).tmod ↑len + ↑len)).tmod ↑len = (z : Int) from by
                          have h60 := LL.out
                          rw [IntWalk.wrap64_in (↑k + turn.tmod ↑len) (by omega), IntWalk.wrap64_in ((↑k + turn.tmod ↑len).tmod ↑len + ↑len) (by omega), hz]; rfl)
                        have hz2 : z < len := by omega
                        have HZ := Lib.hid (show (turn.tmod 2 = 0 → s = z) ∧ (turn.tmod 2 ≠ 0 → (len : Int) - 1 - (z : Int) = (s : Int)) from by
                          have h2 : (sgA len turn k).toNat = z := by omega
                          constructor
                          · intro h; rw [HSG.out]; unfold sg; rw [if_pos hq1, if_pos h]; exact h2
                          · intro h
                            have : s = len - 1 - z := by rw [HSG.out]; unfold sg; rw [if_pos hq1, if_neg h, h2]
                            omega)
                        clear TB TB2 AB hz hq1
                        by_cases hodd : turn.tmod 2 = 0
                        · obtain rfl := HZ.out.1 hodd
                          have hob : (turn.tmod 2 == 0) = true := by simp [hodd]
                          as_aux_lemma =>
                              go_upto_region 18 with fail
                              rw [EW.out]
                              clear EW HZ hqb hqn
                              go_wp2_with fail
                              refine CP.out.mono ?_
                              rintro e w8 ⟨u, er, rfl, her, pg', H', ids', R', hs, ht, hm, hl, hg⟩
                              have V9 := Lib.hid (hs.alloc (.cells u.cs 34)); have T9 := Lib.hid ht
                              have B9 := Lib.hid ((bl_grow BI.out hg (fun k hk => by cases hk; exact BB.out.1) BI.out.size).alloc (Nat.le_trans BI.out.size hg.size) (.cells u.cs 34))
                              have HR2 := Lib.hid (show R'.length ≤ k + 1 from Nat.le_trans hl (by have := HR.out; omega))
                              have HL2 := Lib.hid (show ∀ x, x ∈ R' → LaidOf ks x from fun x hx => by
                                rcases (hm x).1 hx with h | ⟨h1, rfl⟩
                                · exact HL.out x h
                                · exact ⟨HMEM.out, h1, rfl⟩)
                              have HA2 := Lib.hid (show ∀ j, j < k + 1 → keyOk (ks.getD (sg len turn q j) ByteArray.empty) → (ks.getD (sg len turn q j) ByteArray.empty, (⟨1, dat (ks.getD (sg len turn q j) ByteArray.empty) eTx⟩ : Ce)) ∈ R' from fun j hj hkj => by
                                by_cases e : j < k
                                · exact (hm _).2 (.inl (HA.out j e hkj))
                                · obtain rfl : j = k := by omega
                                  rw [← HSG.out, ← HKY.out] at hkj ⊢
                                  exact (hm _).2 (.inr ⟨hkj, rfl⟩))
                              clear hs ht hm hl hg CP BI HR HL HA x0
                              as_aux_lemma =>
                                  go_wp2_with (refine store_ud_new rfl _ _ rfl u rfl rfl ?_; generalize w8.alloc (.cells u.cs 34) = w9 at *)
                                  refine (tland_any V9.out B9.out er).mono ?_
                                  rintro e w10 ⟨rfl, hs, hb, -⟩
                                  have V10 := Lib.hid hs; have B10 := Lib.hid hb
                                  generalize landed er pg pg' = pgl at *
                                  clear hs hb V9 B9
                                  rcases her with rfl | rfl | rfl
                                  · go_wp2
                                    go_roundw
                                    case rel => exact ⟨k + 1, M + 40, H', pgl, ids', R', by have := HLT.out; omega, by go_num, by have := HM.out; omega, V10.out, T9.out, HR2.out, HL2.out, HA2.out, B10.out⟩
                                    case measure => have := HLT.out; simp [intOf]; omega
                                  · go_wp2
                                    go_roundw
                                    case rel => exact ⟨k + 1, M + 40, H', pgl, ids', R', by have := HLT.out; omega, by go_num, by have := HM.out; omega, V10.out, T9.out, HR2.out, HL2.out, HA2.out, B10.out⟩
                                    case measure => have := HLT.out; simp [intOf]; omega
                                  · go_wp2
                                    go_roundw
                                    case rel => exact ⟨k + 1, M + 40, H', pgl, ids', R', by have := HLT.out; omega, by go_num, by have := HM.out; omega, V10.out, T9.out, HR2.out, HL2.out, HA2.out, B10.out⟩
                                    case measure => have := HLT.out; simp [intOf]; omega
                        · have EZ := HZ.out.2 hodd
                          have hob : (turn.tmod 2 == 0) = false := by simp [hodd]
                          have EZ2 := Lib.hid EZ
                          clear EZ
                          as_aux_lemma =>
                              go_upto_region 18 with fail
                              rw [EW.out]
                              clear EW HZ hqb hqn
                              go_upto_region 20 with fail
                              rw [EZ2.out]
                              clear EZ2
                              go_wp2_with fail
                              refine CP.out.mono ?_
                              rintro e w8 ⟨u, er, rfl, her, pg', H', ids', R', hs, ht, hm, hl, hg⟩
                              have V9 := Lib.hid (hs.alloc (.cells u.cs 34)); have T9 := Lib.hid ht
                              have B9 := Lib.hid ((bl_grow BI.out hg (fun k hk => by cases hk; exact BB.out.1) BI.out.size).alloc (Nat.le_trans BI.out.size hg.size) (.cells u.cs 34))
                              have HR2 := Lib.hid (show R'.length ≤ k + 1 from Nat.le_trans hl (by have := HR.out; omega))
                              have HL2 := Lib.hid (show ∀ x, x ∈ R' → LaidOf ks x from fun x hx => by
                                rcases (hm x).1 hx with h | ⟨h1, rfl⟩
                                · exact HL.out x h
                                · exact ⟨HMEM.out, h1, rfl⟩)
                              have HA2 := Lib.hid (show ∀ j, j < k + 1 → keyOk (ks.getD (sg len turn q j) ByteArray.empty) → (ks.getD (sg len turn q j) ByteArray.empty, (⟨1, dat (ks.getD (sg len turn q j) ByteArray.empty) eTx⟩ : Ce)) ∈ R' from fun j hj hkj => by
                                by_cases e : j < k
                                · exact (hm _).2 (.inl (HA.out j e hkj))
                                · obtain rfl : j = k := by omega
                                  rw [← HSG.out, ← HKY.out] at hkj ⊢
                                  exact (hm _).2 (.inr ⟨hkj, rfl⟩))
                              clear hs ht hm hl hg CP BI HR HL HA x0
                              as_aux_lemma =>
                                  go_wp2_with (refine store_ud_new rfl _ _ rfl u rfl rfl ?_; generalize w8.alloc (.cells u.cs 34) = w9 at *)
                                  refine (tland_any V9.out B9.out er).mono ?_
                                  rintro e w10 ⟨rfl, hs, hb, -⟩
                                  have V10 := Lib.hid hs; have B10 := Lib.hid hb
                                  generalize landed er pg pg' = pgl at *
                                  clear hs hb V9 B9
                                  rcases her with rfl | rfl | rfl
                                  · go_wp2
                                    go_roundw
                                    case rel => exact ⟨k + 1, M + 40, H', pgl, ids', R', by have := HLT.out; omega, by go_num, by have := HM.out; omega, V10.out, T9.out, HR2.out, HL2.out, HA2.out, B10.out⟩
                                    case measure => have := HLT.out; simp [intOf]; omega
                                  · go_wp2
                                    go_roundw
                                    case rel => exact ⟨k + 1, M + 40, H', pgl, ids', R', by have := HLT.out; omega, by go_num, by have := HM.out; omega, V10.out, T9.out, HR2.out, HL2.out, HA2.out, B10.out⟩
                                    case measure => have := HLT.out; simp [intOf]; omega
                                  · go_wp2
                                    go_roundw
                                    case rel => exact ⟨k + 1, M + 40, H', pgl, ids', R', by have := HLT.out; omega, by go_num, by have := HM.out; omega, V10.out, T9.out, HR2.out, HL2.out, HA2.out, B10.out⟩
                                    case measure => have := HLT.out; simp [intOf]; omega
                    · obtain rfl : k = len := by omega
                      have CR := Lib.hid (tl_all V.out (Nat.le_refl _) HT.out)
                      have FX := Lib.hid (fun (w' : World) (v : Value) (PB : Nat) (h1 : U < PB) (h2 : KOwn w' PB v (rangeL R ⟨#[]⟩ 64)) => show Fin16 w' U ks v from ⟨pg, 100, H, ids, R, True, PB, HT.out, laid_all HLN.out turn q HL.out HA.out, h1, h2⟩)
                      clear hlt hk V HL HA
                      as_aux_lemma =>
                          go_wp2_with fail
                          refine CR.out.mono ?_
                          rintro e w5 ⟨x, rfl, ho, hb⟩
                          have B5 := Lib.hid (below_then BI.out hb BI.out.size)
                          have FV := Lib.hid (FX.out w5 x _ (Nat.lt_of_lt_of_le KU.out.lt BI.out.size) ho)
                          have K5 := Lib.hid (KU.out.below B5.out KU.out.lt)
                          have G0 := Lib.hid (fun h => (F0.out h).kept B5.out)
                          have BX := Lib.hid (below_then BW.out B5.out BW.out.size)
                          have ho' := ho
                          clear ho hb CR FX F0 KU BI B5
                          obtain ⟨xa, xc, rfl⟩ := ow_slice (show w5.ownsRow _ 57 3 x _ _ from ho')
                          clear ho'
                          obtain ⟨xv, hxv⟩ : ∃ xv, xv = Value.slice xa (rangeL R ⟨#[]⟩ 64).length xc := ⟨_, rfl⟩
                          generalize (rangeL R ⟨#[]⟩ 64).length = xl at *
                          have XV := Lib.hid hxv
                          rw [← hxv] at FV
                          have hqi : (q : Int) < 2 := by have := HQ2.out; omega
                          have hqn0 : ¬ (q : Int) < 0 := by omega
                          have hqs : q < 2 := HQ2.out
                          rcases (show q = 0 ∨ q = 1 by have := HQ2.out; omega) with hq0 | hq1
                          · have z0 : w5.cell? ⟨U, q, none⟩ = some v0 := by rw [hq0]; exact K5.out.cell 0
                            have fz := K5.out.fz q
                            have KN := Lib.hid (show Bk (w5.setCell ⟨U, q, none⟩ xv) U 46 #[xv, v1] from by
                              have h := K5.out.set q xv
                              rw [show (#[v0, v1] : Array Value).setIfInBounds q xv = #[xv, v1] from by rw [hq0]; rfl] at h
                              exact h)
                            have FN := Lib.hid (FV.out.far q xv)
                            have BN := Lib.hid (BX.out.setCell (p := ⟨U, q, none⟩) UB.out xv)
                            have Q0 := Lib.hid hq0
                            rw [hxv] at KN FN BN
                            clear hq0 hxv
                            as_aux_lemma =>
                                go_wp2
                                go_roundw
                                case rel => exact ⟨q + 1, _, v1, by have := Q0.out; omega, by go_num, BN.out, KN.out, fun _ => FN.out, fun h => by have := Q0.out; omega⟩
                                case measure => have := HQ2.out; simp [intOf]; omega
                          · have z0 : w5.cell? ⟨U, q, none⟩ = some v1 := by rw [hq1]; exact K5.out.cell 1
                            have fz := K5.out.fz q
                            have KN := Lib.hid (show Bk (w5.setCell ⟨U, q, none⟩ xv) U 46 #[v0, xv] from by
                              have h := K5.out.set q xv
                              rw [show (#[v0, v1] : Array Value).setIfInBounds q xv = #[v0, xv] from by rw [hq1]; rfl] at h
                              exact h)
                            have FN := Lib.hid (FV.out.far q xv)
                            have GN := Lib.hid ((G0.out (by omega)).far q xv)
                            have BN := Lib.hid (BX.out.setCell (p := ⟨U, q, none⟩) UB.out xv)
                            have Q0 := Lib.hid hq1
                            rw [hxv] at KN FN BN GN
                            clear hq1 hxv
                            as_aux_lemma =>
                                go_wp2
                                go_roundw
                                case rel => exact ⟨q + 1, v0, _, by have := Q0.out; omega, by go_num, BN.out, KN.out, fun _ => GN.out, fun _ => FN.out⟩
                                case measure => have := HQ2.out; simp [intOf]; omega
        · obtain rfl : q = 2 := by omega
          have x0 : wr.cell? ⟨U, 0, none⟩ = some v0 := KU.out.cell 0
          have x1 : wr.cell? ⟨U, 1, none⟩ = some v1 := KU.out.cell 1
          obtain ⟨pgA, nA, HA, idA, RA, fA, PA, ta, ma, -, oa⟩ := F0.out (by omega)
          obtain ⟨pgB, nB, HB, idB, RB, fB, PBB, tb, mb, -, ob⟩ := F1.out (by omega)
          rw [← live_ext ta tb (fun x => by unfold lvS; rw [ma x, mb x]) ⟨#[]⟩ 64] at ob
          have CS := Lib.hid (tsame_any oa.at_ ob.at_ (by have := rangeL_len RA ⟨#[]⟩ 64; omega))
          clear ta ma oa tb mb ob F0 F1 hq hq2
          as_aux_lemma =>
              go_wp2_with fail
              refine CS.out.mono ?_
              rintro e w10 ⟨rfl, hb3⟩
              have B10 := Lib.hid (below_then B1.out (below_then BW.out hb3 BW.out.size) B1.out.size)
              clear hb3 CS BW
              go_wp2
              go_ret
              exact ⟨rfl, B10.out⟩
end Go.Proofs.Ytkehknokfenioaa
