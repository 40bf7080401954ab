/- SpaceLowest. -/
import Derived.Test.YteccaickdjbndaaSpcSt
import Derived.Test.YteccaickdjbndaaMapI
set_option linter.unusedVariables false
set_option linter.unusedSimpArgs false
namespace Go.Proofs.Yteccaickdjbndaa
open Go.RowKit Go.Maps

theorem keyedInt : Keyed Try.prog 3 := int_keyed Try.underlying3
theorem zeroBool (w : World) : (zeroValue 4).run Try.prog w = .ok (.bool false) w := by kernel_rfl
/-- A set of page numbers, as a map of bools. -/
def setI (fr : Nat → Bool) : Int → Option Value := fun x => if 0 ≤ x ∧ fr x.toNat = true then some (.bool true) else none
theorem setI_get (fr : Nat → Bool) (x : Int) : (keyI (setI fr) (.int .i64 x)).getD (.bool false) = .bool (decide (0 ≤ x ∧ fr x.toNat = true)) := by
  show (if 0 ≤ x ∧ fr x.toNat = true then some (Value.bool true) else none).getD (.bool false) = _
  by_cases h : 0 ≤ x ∧ fr x.toNat = true
  · rw [if_pos h, decide_eq_true h]; rfl
  · rw [if_neg h, decide_eq_false h]; rfl
theorem setI_put (fr : Nat → Bool) (x : Int) (hx : 0 ≤ x) : fput (keyI (setI fr)) (.int .i64 x) (.bool true) = keyI (setI (Go.Proofs.Yteccaickdjbndaa.put fr x.toNat true)) := by
  rw [keyI_put]
  congr 1
  funext y
  unfold setI Go.Proofs.Yteccaickdjbndaa.put
  by_cases e : y = x
  · subst e; rw [if_pos rfl, if_pos ⟨hx, if_pos rfl⟩]
  · rw [if_neg e]
    by_cases hy : 0 ≤ y
    · rw [if_neg (show ¬ y.toNat = x.toNat by omega)]
    · rw [if_neg (fun h => hy h.1), if_neg (fun h => hy h.1)]
theorem setI_none : (fun _ => none) = keyI (setI fun _ => false) := by
  funext kl
  cases kl with
  | int q x => cases q <;> simp [keyI, setI]
  | _ => rfl
theorem owns_slice {w : World} {base : Nat} {e : TypeId} {size : Nat} {v : Value} {n : Nat} {xs : List Value} (h : w.ownsRow base e size v n xs) : ∃ a c, v = .slice a n c := by
  rcases h.2 with ⟨rfl, rfl⟩ | ⟨g, cap, cur, rfl, _⟩
  · exact ⟨none, 0, rfl⟩
  · exact ⟨_, _, rfl⟩
theorem owL_full {ow : Nat → Option Int} {n : Nat} (h : ∀ i, i < n → (ow i).isSome = true) : (owL ow n).length = n := by
  unfold owL
  rw [List.filter_eq_self.2 (fun i hi => h i (List.mem_range.1 hi)), List.length_map, List.length_range]
/-- Those below j have an owner. -/
def owUp (ow : Nat → Option Int) (n j : Nat) : Prop := ∀ i, i < n → (ow i).isSome = decide (i < j)
theorem owUp.step {ow : Nat → Option Int} {n j : Nat} (h : owUp ow n j) (hj : j < n) (x : Int) : owUp (put ow j (some x)) n (j + 1) := fun i hi => by
  unfold put
  by_cases e : i = j
  · subst e; rw [if_pos rfl]; simp
  · rw [if_neg e, h i hi]
    by_cases hij : i < j
    · simp [hij, show i < j + 1 by omega]
    · simp [hij, show ¬ i < j + 1 by omega]
theorem owUp.first {ow : Nat → Option Int} {n j id : Nat} (h : owUp ow n j) (hj : j ≤ n) (hid : id < n) (ho : ow id = none) (ha : ∀ i, i < id → (ow i).isSome = true) : id = j := by
  have h1 := h id hid
  rw [ho] at h1
  have h2 : ¬ id < j := by simpa using h1.symm
  by_cases e : j < id
  · have h3 := ha j e
    rw [h j (by omega)] at h3
    simp at h3
  · omega
/-- Those in the set, and not below j, are free. -/
def owFr (ow : Nat → Option Int) (n : Nat) (fr : Nat → Bool) (j : Nat) : Prop := ∀ i, i < n → (ow i).isSome = !(fr i && decide (j ≤ i))

set_option maxRecDepth 100000 in
set_option maxHeartbeats 8000000 in
theorem walk_SpaceLowest (n0 : Int) (v : Value) (q : Slq) (w : World) (hn1 : -9223372036854775808 ≤ n0) (hn2 : n0 ≤ 9223372036854775807) (hq : v = .slice q.a q.len q.cap ∧ q.len ≤ q.cap ∧ q.cap ≤ maxLen ∧ ∃ f : Nat → Int, Row w w.heap.size .i64 v q.len f ∧ ∀ i, i < q.len → -9223372036854775808 ≤ f i ∧ f i ≤ 9223372036854775807) :
    Calls Try.prog 4 #[.int .i64 n0, v] w fun e w' => e = .returned (.bool true) ∧ Below w.heap.size w w' := by
  obtain ⟨rfl, hle, hmx, f, hrow, hfb⟩ := hq
  have ROW := Lib.hid hrow; have FB := Lib.hid hfb
  obtain ⟨len, hlen⟩ : ∃ len, len = q.len := ⟨_, rfl⟩
  obtain ⟨qa, hqa⟩ : ∃ qa, qa = q.a := ⟨_, rfl⟩
  obtain ⟨qc, hqc⟩ : ∃ qc, qc = q.cap := ⟨_, rfl⟩
  rw [← hlen, ← hqa, ← hqc] at ROW
  rw [← hlen] at FB
  have LM := Lib.hid (show len ≤ 9223372036854775807 ∧ len ≤ maxLen by simp only [maxLen] at hmx ⊢; omega)
  rw [← hlen, ← hqa, ← hqc]
  clear hrow hfb hle hmx hlen hqa hqc
  have CA := Lib.hid (awake14_any w)
  go_enter Try.func4, Try.ntmps4
  go_wp2_with fail
  refine CA.out.mono ?_
  rintro e w1 ⟨rfl, hb⟩
  have B1 := Lib.hid hb
  clear hb CA
  have CM := memory_good 64 w1 (by omega) (by omega)
  rw [show ((64 : Nat) : Int) = 64 from rfl] at CM
  have CM := Lib.hid CM
  go_wp2_with fail
  refine CM.out.mono ?_
  rintro e w2 ⟨gs, r, rfl, hS, hb⟩
  have S2 := Lib.hid (show Sh w2 w.heap.size gs r (List.replicate 64 Pg.zero) from ⟨hS.box, hS.row, hS.one, hS.most, Nat.le_trans B1.out.size hS.bg, Nat.le_trans B1.out.size hS.br⟩)
  have B2 := Lib.hid (below_then B1.out hb B1.out.size)
  clear hS hb CM B1
  as_aux_lemma =>
    go_wp2_with fail
    refine (ss_new S2.out B2.out.size).mono ?_
    rintro e w3 ⟨g, b, rfl, hs, hb, -, -⟩
    have V3 := Lib.hid (sv_zero hs)
    have B3 := Lib.hid (below_then B2.out hb B2.out.size)
    clear hs hb S2 B2
    as_aux_lemma =>
      by_cases c64 : (64 : Int) < n0
      · clear V3
        go_wp2
        go_ret
        exact ⟨rfl, B3.out⟩
      by_cases c4 : n0 < 4
      · have CF := Lib.hid (format_bad (g := g) n0 w3 (.inl c4))
        clear V3
        go_wp2_with fail
        refine CF.out.mono ?_
        rintro e w4 ⟨rfl, rfl⟩
        clear CF
        go_wp2
        go_ret
        exact ⟨rfl, B3.out⟩
      obtain ⟨n, rfl⟩ : ∃ n : Nat, n0 = (n : Int) := ⟨n0.toNat, by omega⟩
      have NB := Lib.hid (show 4 ≤ n ∧ n ≤ 64 by omega)
      have CF := Lib.hid (format_good V3.out (by omega) n (by omega) (by omega) (by decide))
      clear hn1 hn2
      as_aux_lemma =>
        go_wp2_with fail
        refine CF.out.mono ?_
        rintro e w4 ⟨rfl, hs, hg⟩
        have V4 := Lib.hid hs
        have O4 := Lib.hid (vol_new pz n NB.out.1 (by have := NB.out; omega))
        have B4 := Lib.hid (bl_grow B3.out hg (fun k hk => by cases hk; exact V3.out.b_ge) B3.out.size)
        generalize upd (upd pz 0 dir0) 1 (mapN n) = pg4 at *
        clear hs hg CF V3 B3 c4
        as_aux_lemma =>
          go_wp2_with fail
          go_loopw [8] (fun i wr => ∃ (j : Nat) (pg : Nat → Pg) (ow : Nat → Option Int), 2 ≤ j ∧ j ≤ n ∧ i = .int .i64 j ∧ SV wr w.heap.size g b gs r 64 j pz pg ∧ Vol pg n (fun _ => 0) (fun _ => 0) (fun _ => 0) ow ∧ owUp ow n j ∧ Below w.heap.size w wr) (fun i _ => n - (intOf i).toNat)
          case atStart => exact ⟨2, pg4, ow0, Nat.le_refl _, by have := NB.out; omega, rfl, V4.out, O4.out, (fun i hi => by unfold ow0; by_cases h : i < 2 <;> simp [h]), B4.out⟩
          case round =>
            clear V4 O4 B4
            obtain ⟨j, pg, ow, hj2, hj, rfl, hs, hv, hu, hb⟩ := hrel
            have V5 := Lib.hid hs; have O5 := Lib.hid hv; have B5 := Lib.hid hb; have U5 := Lib.hid hu
            clear hs hv hu hb
            by_cases hlt : j < n
            · have HLT := Lib.hid hlt
              have jb : j < 9223372036854775807 := by have := NB.out; omega
              have CT := Lib.hid (take_vol V5.out (by have := NB.out; omega) O5.out (by have := NB.out; simp only [maxLen]; omega))
              as_aux_lemma =>
                go_wp2_with fail
                refine CT.out.mono ?_
                rintro e w6 (⟨h, -, -⟩ | ⟨id, x, pg6, h2, hid, ho, ha, rfl, hs, hv, hg⟩)
                · have := h j hlt
                  rw [U5.out j hlt] at this
                  simp at this
                obtain rfl : id = j := U5.out.first hj hid ho ha
                have V6 := Lib.hid hs; have O6 := Lib.hid hv
                have U6 := Lib.hid (U5.out.step hlt x)
                have B6 := Lib.hid (bl_grow B5.out hg (fun k hk => by cases hk; exact V5.out.b_ge) B5.out.size)
                clear hs hv hg CT V5 B5 O5 U5 h2 hid ho ha
                go_wp2
                go_roundw
                case rel => exact ⟨id + 1, _, _, by omega, by have := HLT.out; omega, by go_num, V6.out, O6.out, U6.out, B6.out⟩
                case measure => have := HLT.out; simp [intOf]; omega
            · obtain rfl : j = n := by omega
              clear hlt hj
              have CL := Lib.hid (land_any V5.out B5.out 0)
              as_aux_lemma =>
                go_wp2_with fail
                refine CL.out.mono ?_
                rintro e w6 ⟨rfl, hs, hb⟩
                have V6 := Lib.hid (show SV w6 w.heap.size g b gs r 64 0 pg pg from hs)
                have B6 := Lib.hid hb
                clear hs hb CL V5 B5
                have CT := Lib.hid (take_vol V6.out (by have := NB.out; omega) O5.out (by decide))
                as_aux_lemma =>
                  go_wp2_with fail
                  refine CT.out.mono ?_
                  rintro e w7 (⟨-, rfl, hb⟩ | ⟨id, x, pg6, h2, hid, ho, ha, -, -, -, -⟩)
                  case inr =>
                    have := U5.out id hid
                    rw [ho] at this
                    simp [hid] at this
                  have V7 := Lib.hid (V6.out.kept hb)
                  have B7 := Lib.hid (below_then B6.out hb B6.out.size)
                  clear hb CT V6 B6
                  have CD := Lib.hid (sv_drop V7.out)
                  as_aux_lemma =>
                    go_wp2_with fail
                    refine CD.out.mono ?_
                    rintro e w8 ⟨rfl, hs, hg⟩
                    have V8 := Lib.hid hs
                    have B8 := Lib.hid (bl_grow B7.out hg (fun k hk => by cases hk; exact V7.out.b_ge) B7.out.size)
                    clear hs hg CD V7 B7
                    obtain ⟨F, hF⟩ : ∃ F, F = w8.heap.size := ⟨_, rfl⟩
                    have MP := Lib.hid (show Mp (w8.alloc (.map #[] 0)) Try.prog 3 F 0 (keyI (setI fun _ => false)) from by
                      rw [hF]
                      exact (Mp.made w8 Try.prog 3).congr setI_none)
                    have FN := Lib.hid (show b ≠ F ∧ r ≠ F ∧ w.heap.size ≤ F ∧ F < (w8.alloc (.map #[] 0)).heap.size from by
                      have h1 := V8.out.gs_ne
                      have h2 := B8.out.size
                      refine ⟨by omega, by omega, by omega, by rw [hF]; simp⟩)
                    have FE := Lib.hid (show F ≠ g ∧ F ≠ b ∧ F ≠ gs ∧ F ≠ r from by
                      have h1 := V8.out.gs_ne
                      omega)
                    have V9 := Lib.hid (V8.out.alloc (.map #[] 0))
                    have B9 := Lib.hid (B8.out.alloc B8.out.size (.map #[] 0))
                    have hmm := @run_makeMap Try.prog
                    have HF := Lib.hid hF.symm
                    clear hF V8 B8
                    as_aux_lemma =>
                      go_upto_region 19 with fail
                      rw [HF.out]
                      generalize w8.alloc (.map #[] 0) = w9 at *
                      clear hmm HF
                      go_wp2_with fail
                      go_loopw [73] (fun i wr => ∃ (k m : Nat) (pg : Nat → Pg) (ow : Nat → Option Int) (fr : Nat → Bool), k ≤ len ∧ m ≤ k ∧ i = .int .i64 k ∧ SV wr w.heap.size g b gs r 64 0 pg pg ∧ Vol pg j (fun _ => 0) (fun _ => 0) (fun _ => 0) ow ∧ owFr ow j fr 2 ∧ (∀ i, fr i = true → 2 ≤ i ∧ i < j) ∧ Mp wr Try.prog 3 F m (keyI (setI fr)) ∧ F < wr.heap.size ∧ Below w.heap.size w wr) (fun i _ => len - (intOf i).toNat)
                      case atStart => exact ⟨0, 0, _, _, _, Nat.zero_le _, Nat.le_refl _, rfl, V9.out, O5.out, (fun i hi => by rw [U5.out i hi]; simp [hi]), (fun i h => by cases h), MP.out, FN.out.2.2.2, B9.out⟩
                      case round =>
                        clear V9 MP O5 U5 B9
                        obtain ⟨k, m, pg', ow', fr, hk, hm, rfl, hs, hv, hfr, hfin, hmp, hfs, hb⟩ := hrel
                        have VA := Lib.hid hs; have OA := Lib.hid hv; have BA := Lib.hid hb; have RA := Lib.hid hfr; have MA := Lib.hid hmp; have FI := Lib.hid hfin; have FS := Lib.hid hfs; have HM := Lib.hid hm
                        clear hs hv hfr hfin hmp hfs hb hm
                        by_cases hlt : k < len
                        · have HLT := Lib.hid hlt
                          have hkb : k < 9223372036854775807 := by have := LM.out; omega
                          obtain ⟨a', c', e1, -, hat⟩ := ROW.out.below BA.out (Nat.le_refl _)
                          obtain ⟨b1, off, e2, hb1, hra⟩ := hat (by omega)
                          obtain ⟨rfl, rfl⟩ : qa = some ⟨b1, off, none⟩ ∧ qc = c' := by rw [e2] at e1; simpa using e1
                          have r0 := hra k hlt
                          have FJ := Lib.hid (FB.out k hlt)
                          obtain ⟨x, hx⟩ : ∃ x, x = f k := ⟨_, rfl⟩
                          rw [← hx] at r0 FJ
                          have CK := Lib.hid (give_vol VA.out (n := j) (by have := NB.out; omega) OA.out (by decide) x)
                          clear e1 hat e2 hb1 hra hx
                          as_aux_lemma =>
                            go_wp2_with fail
                            refine CK.out.mono ?_
                            rintro e wb (⟨hno, rfl, hb⟩ | ⟨hyes, rfl, pgb, hs, hv, hg⟩)
                            · have VB := Lib.hid (VA.out.kept hb)
                              have MB := Lib.hid (MA.out.kept (hb.mono (Nat.le_refl _)))
                              have FB2 := Lib.hid (Nat.lt_of_lt_of_le FS.out hb.size)
                              have BB := Lib.hid (below_then BA.out hb BA.out.size)
                              clear hb CK r0
                              have CL := Lib.hid (land_full VB.out BB.out 1)
                              as_aux_lemma =>
                                go_wp2_with fail
                                refine CL.out.mono ?_
                                rintro e wc ⟨rfl, hs, hb⟩
                                rw [landed_same] at hs
                                have VC := Lib.hid hs
                                have MC := Lib.hid (MB.out.of_block (hb.2.2 F FB2.out FN.out.1.symm FN.out.2.1.symm))
                                have FC := Lib.hid (Nat.lt_of_lt_of_le FB2.out hb.2.1)
                                have BC := Lib.hid hb.1
                                clear hs hb CL VB MB BB VA BA MA FS FB2
                                by_cases x2 : x < 2
                                · have x2' : ¬ (2 : Int) ≤ x := by omega
                                  go_wp2
                                  go_roundw
                                  case rel => exact ⟨k + 1, m, _, _, _, by have := HLT.out; omega, by have := HM.out; omega, by go_num, VC.out, OA.out, RA.out, FI.out, MC.out, FC.out, BC.out⟩
                                  case measure => have := HLT.out; simp [intOf]; omega
                                · have x2' : (2 : Int) ≤ x := by omega
                                  by_cases xn : x < (j : Int)
                                  · have hfx : fr x.toNat = true := by
                                      have := RA.out x.toNat (by omega)
                                      cases hf : fr x.toNat with
                                      | true => rfl
                                      | false => rw [hf] at this; exact absurd ⟨x2', xn, by rw [this]; rfl⟩ hno
                                    have hlk := (MC.out.look keyedInt Try.underlying48 (zeroBool _) (keyOf_int_mk Try.underlying3 (WalkArith.wf_i64 (n := x) (by have := FJ.out; omega)))).2
                                    rw [setI_get, decide_eq_true ⟨by omega, hfx⟩] at hlk
                                    go_wp2
                                    go_roundw
                                    case rel => exact ⟨k + 1, m, _, _, _, by have := HLT.out; omega, by have := HM.out; omega, by go_num, VC.out, OA.out, RA.out, FI.out, MC.out, FC.out, BC.out⟩
                                    case measure => have := HLT.out; simp [intOf]; omega
                                  · have xn' : ¬ x < (j : Int) := xn
                                    go_wp2
                                    go_roundw
                                    case rel => exact ⟨k + 1, m, _, _, _, by have := HLT.out; omega, by have := HM.out; omega, by go_num, VC.out, OA.out, RA.out, FI.out, MC.out, FC.out, BC.out⟩
                                    case measure => have := HLT.out; simp [intOf]; omega
                            · have MB := Lib.hid (MA.out.grown hg (fun e => FN.out.1 (by injection e with e; exact e.symm)))
                              have FB2 := Lib.hid (Nat.lt_of_lt_of_le FS.out hg.size)
                              have BB := Lib.hid (bl_grow BA.out hg (fun k hk => by cases hk; exact VA.out.b_ge) BA.out.size)
                              have OB := Lib.hid hv
                              have CL := Lib.hid (land_full hs BB.out 0)
                              have hfx : fr x.toNat = false := by
                                have := RA.out x.toNat (by omega)
                                rw [hyes.2.2] at this
                                cases hf : fr x.toNat with
                                | false => rfl
                                | true => rw [hf] at this; simp at this; omega
                              have RB := Lib.hid (show owFr (Go.Proofs.Yteccaickdjbndaa.put ow' x.toNat none) j (Go.Proofs.Yteccaickdjbndaa.put fr x.toNat true) 2 from fun i hi => by
                                by_cases e : i = x.toNat
                                · subst e; rw [put_at, put_at]; have := hyes.1; simp; omega
                                · rw [put_ne _ _ e, put_ne _ _ e]; exact RA.out i hi)
                              have FIB := Lib.hid (show ∀ i, Go.Proofs.Yteccaickdjbndaa.put fr x.toNat true i = true → 2 ≤ i ∧ i < j from fun i hi => by
                                by_cases e : i = x.toNat
                                · subst e; omega
                                · rw [put_ne _ _ e] at hi; exact FI.out i hi)
                              clear hs hv hg CK r0 VA BA OA MA RA FI FS
                              as_aux_lemma =>
                                go_wp2_with fail
                                refine CL.out.mono ?_
                                rintro e wc ⟨rfl, hs, hb⟩
                                have VC := Lib.hid (show SV wc w.heap.size g b gs r 64 0 pgb pgb from hs)
                                have MC := Lib.hid (MB.out.of_block (hb.2.2 F FB2.out FN.out.1.symm FN.out.2.1.symm))
                                have FC := Lib.hid (Nat.lt_of_lt_of_le FB2.out hb.2.1)
                                have BC := Lib.hid hb.1
                                have x2' := hyes.1
                                have xn' := hyes.2.1
                                have hkey := keyOf_int_mk (P := Try.prog) Try.underlying3 (WalkArith.wf_i64 (n := x) (by have := FJ.out; omega))
                                have hlk := (MC.out.look keyedInt Try.underlying48 (zeroBool _) hkey).2
                                rw [setI_get, decide_eq_false (by rw [hfx]; simp)] at hlk
                                have HK := Lib.hid hkey
                                have X0 := Lib.hid (show 0 ≤ x by omega)
                                clear hs hb CL MB BB FB2 hyes hkey hfx
                                go_wp2_with (at_mapUpdate; refine wpList_mp_store _ rfl _ _ _ 48 rfl 3 4 keyedInt Try.underlying48 F m _ rfl MC.out ?hm _ (.bool true) _ rfl rfl HK.out ?_; (case hm => have := HM.out; have := LM.out.2; have := HLT.out; omega); intro wd hmp hgd; rw [setI_put _ _ X0.out] at hmp)
                                have VD := Lib.hid (VC.out.grown hgd (fun k hk => by cases hk; exact FE.out))
                                have BD := Lib.hid (bl_grow BC.out hgd (fun k hk => by cases hk; exact FN.out.2.2.1) BC.out.size)
                                have MD := Lib.hid hmp
                                have FD := Lib.hid (Nat.lt_of_lt_of_le FC.out hgd.size)
                                clear hmp hgd VC MC FC BC hlk x2' xn'
                                go_wp2
                                go_roundw
                                case rel => exact ⟨k + 1, m + 1, pgb, _, _, by have := HLT.out; omega, by have := HM.out; omega, by go_num, VD.out, OB.out, RB.out, FIB.out, MD.out, FD.out, BD.out⟩
                                case measure => have := HLT.out; simp [intOf]; omega
                        · obtain rfl : k = len := by omega
                          clear hlt hk
                          as_aux_lemma =>
                            go_wp2_with fail
                            go_loopw [18] (fun i wr => ∃ (l M : Nat) (pg2 : Nat → Pg) (ow2 : Nat → Option Int), 2 ≤ l ∧ l ≤ j ∧ M ≤ l ∧ i = .int .i64 l ∧ SV wr w.heap.size g b gs r 64 M pg' pg2 ∧ Vol pg2 j (fun _ => 0) (fun _ => 0) (fun _ => 0) ow2 ∧ owFr ow2 j fr l ∧ Mp wr Try.prog 3 F m (keyI (setI fr)) ∧ F < wr.heap.size ∧ Below w.heap.size w wr) (fun i _ => j - (intOf i).toNat)
                            case atStart => exact ⟨2, 0, pg', ow', Nat.le_refl _, by have := NB.out; omega, Nat.zero_le _, rfl, VA.out, OA.out, RA.out, MA.out, FS.out, BA.out⟩
                            case round =>
                              clear VA OA RA MA BA FS
                              obtain ⟨l, M, pg2, ow2, hl2, hl, hM, rfl, hs, hv, hfr, hmp, hfs, hb⟩ := hrel
                              have VB := Lib.hid hs; have OB := Lib.hid hv; have BB := Lib.hid hb; have RB := Lib.hid hfr; have MB := Lib.hid hmp; have FB2 := Lib.hid hfs; have ML := Lib.hid hM
                              clear hs hv hfr hmp hfs hb hM
                              by_cases hlt : l < j
                              · have HLT := Lib.hid hlt
                                have lb : l < 9223372036854775807 := by have := NB.out; omega
                                have hlk := (MB.out.look keyedInt Try.underlying48 (zeroBool _) (keyOf_int_mk Try.underlying3 (WalkArith.wf_i64 (n := (l : Int)) (by omega)))).2
                                rw [setI_get] at hlk
                                cases hf : fr l with
                                | true =>
                                  rw [decide_eq_true ⟨by omega, by rw [Int.toNat_natCast]; exact hf⟩] at hlk
                                  have CT := Lib.hid (take_vol VB.out (by have := NB.out; omega) OB.out (by have := NB.out; have := ML.out; simp only [maxLen]; omega))
                                  have HF := Lib.hid hf
                                  clear hf
                                  as_aux_lemma =>
                                    go_wp2_with fail
                                    refine CT.out.mono ?_
                                    rintro e wc (⟨h, -, -⟩ | ⟨id, x, pg3, h2, hid, ho, ha, rfl, hs, hv, hg⟩)
                                    · have := h l hlt
                                      rw [RB.out l hlt, HF.out] at this
                                      simp at this
                                    obtain rfl : id = l := by
                                      have h1 := RB.out id hid
                                      rw [ho] at h1
                                      have h3 : l ≤ id := by
                                        cases hfi : fr id with
                                        | true => rw [hfi] at h1; simpa using h1
                                        | false => rw [hfi] at h1; cases h1
                                      by_cases e : l < id
                                      · have h4 := ha l e
                                        rw [RB.out l hlt, HF.out] at h4
                                        simp at h4
                                      · omega
                                    have VC := Lib.hid hs; have OC := Lib.hid hv
                                    have RC := Lib.hid (show owFr (Go.Proofs.Yteccaickdjbndaa.put ow2 id (some x)) j fr (id + 1) from fun i hi => by
                                      by_cases e : i = id
                                      · subst e; rw [put_at]; simp
                                      · rw [put_ne _ _ e, RB.out i hi]
                                        by_cases e2 : id ≤ i
                                        · rw [decide_eq_true e2, decide_eq_true (show id + 1 ≤ i by omega)]
                                        · rw [decide_eq_false e2, decide_eq_false (show ¬ id + 1 ≤ i by omega)])
                                    have MC := Lib.hid (MB.out.grown hg (fun e => FE.out.2.1 (by injection e with e)))
                                    have FC := Lib.hid (Nat.lt_of_lt_of_le FB2.out hg.size)
                                    have BC := Lib.hid (bl_grow BB.out hg (fun k hk => by cases hk; exact VB.out.b_ge) BB.out.size)
                                    clear hs hv hg CT VB OB RB MB FB2 BB hlk ho ha h2 hid
                                    go_wp2
                                    go_roundw
                                    case rel => exact ⟨id + 1, M + 1, _, _, by omega, by have := HLT.out; omega, by have := ML.out; omega, by go_num, VC.out, OC.out, RC.out, MC.out, FC.out, BC.out⟩
                                    case measure => have := HLT.out; simp [intOf]; omega
                                | false =>
                                  rw [decide_eq_false (by rw [Int.toNat_natCast, hf]; simp)] at hlk
                                  have RC := Lib.hid (show owFr ow2 j fr (l + 1) from fun i hi => by
                                    rw [RB.out i hi]
                                    by_cases e : i = l
                                    · subst e; rw [hf]; rfl
                                    · by_cases e2 : l ≤ i
                                      · rw [decide_eq_true e2, decide_eq_true (show l + 1 ≤ i by omega)]
                                      · rw [decide_eq_false e2, decide_eq_false (show ¬ l + 1 ≤ i by omega)])
                                  clear hf RB
                                  go_wp2
                                  go_roundw
                                  case rel => exact ⟨l + 1, M, _, _, by omega, by have := HLT.out; omega, by have := ML.out; omega, by go_num, VB.out, OB.out, RC.out, MB.out, FB2.out, BB.out⟩
                                  case measure => have := HLT.out; simp [intOf]; omega
                              · obtain rfl : l = j := by omega
                                clear hlt hl
                                have CU := Lib.hid (used_vol VB.out (by have := NB.out; omega) OB.out)
                                have HL := Lib.hid (show (owL ow2 l).length = l from owL_full fun i hi => by
                                  rw [RB.out i hi, decide_eq_false (show ¬ l ≤ i by omega)]; simp)
                                as_aux_lemma =>
                                  go_wp2_with fail
                                  refine CU.out.mono ?_
                                  rintro e wc ⟨v, rfl, hv, hb⟩
                                  have BC := Lib.hid (below_then BB.out hb BB.out.size)
                                  obtain ⟨a, c, rfl⟩ := owns_slice hv
                                  rw [HL.out]
                                  clear hv hb CU VB OB RB MB FB2 BB
                                  go_wp2
                                  go_ret
                                  exact ⟨rfl, BC.out⟩
end Go.Proofs.Yteccaickdjbndaa
