/- SpaceStores. -/
import Derived.Test.YteccaickdjbndaaSpcPre
import Derived.Test.YteccaickdjbndaaRowI
set_option linter.unusedVariables false
set_option linter.unusedSimpArgs false
namespace Go.Proofs.Yteccaickdjbndaa
open Go.RowKit Go.Maps

def stN (c : Nat) : Nat → Int := fun i => if i < c then 1 else 0
def owN (c : Nat) : Nat → Option Int := fun i => if i < 2 then some 0 else if i < c + 2 then some ((i : Int) - 1) else none
theorem stN_put (c : Nat) : put (stN c) c 1 = stN (c + 1) := by
  funext i
  unfold put stN
  by_cases e : i = c
  · subst e; rw [if_pos rfl, if_pos (by omega)]
  · rw [if_neg e]
    by_cases h : i < c
    · rw [if_pos h, if_pos (by omega)]
    · rw [if_neg h, if_neg (by omega)]
theorem owN_put (c : Nat) : put (owN c) (c + 2) (some ((c : Int) + 1)) = owN (c + 1) := by
  funext i
  unfold put owN
  by_cases e : i = c + 2
  · subst e; rw [if_pos rfl, if_neg (by omega), if_pos (by omega)]; congr 1; omega
  · rw [if_neg e]
    by_cases h2 : i < 2
    · rw [if_pos h2, if_pos h2]
    · rw [if_neg h2, if_neg h2]
      by_cases h : i < c + 2
      · rw [if_pos h, if_pos (by omega)]
      · rw [if_neg h, if_neg (by omega)]
theorem stN_ne (c i : Nat) : stN c i ≠ 0 ↔ i < c := by
  unfold stN
  by_cases h : i < c
  · rw [if_pos h]; exact ⟨fun _ => h, fun _ => by decide⟩
  · rw [if_neg h]; exact ⟨fun a => absurd rfl a, fun a => absurd a h⟩
theorem owN_some (c i : Nat) : (owN c i).isSome = true ↔ i < c + 2 := by
  unfold owN
  by_cases h2 : i < 2
  · rw [if_pos h2]; exact ⟨fun _ => by omega, fun _ => rfl⟩
  · rw [if_neg h2]
    by_cases h : i < c + 2
    · rw [if_pos h]; exact ⟨fun _ => h, fun _ => rfl⟩
    · rw [if_neg h]; exact ⟨fun a => (by cases a), fun a => absurd a h⟩
theorem owN_none {c i : Nat} (h : owN c i = none) : c + 2 ≤ i := by
  refine Nat.le_of_not_lt fun hh => ?_
  have := (owN_some c i).2 hh
  rw [h] at this
  cases this
theorem ow0_N : ow0 = owN 0 := by
  funext i
  unfold ow0 owN
  by_cases h2 : i < 2
  · rw [if_pos h2, if_pos h2]
  · rw [if_neg h2, if_neg h2, if_neg (by omega)]
theorem st0_N : (fun _ : Nat => (0 : Int)) = stN 0 := by funext i; unfold stN; rw [if_neg (by omega)]
theorem landed_same (er : Int) (pg : Nat → Pg) : landed er pg pg = pg := by unfold landed; split <;> rfl

set_option maxRecDepth 100000 in
set_option maxHeartbeats 8000000 in
theorem walk_SpaceStores (v : Value) (q : Slq) (fo : Int) (w : World) (hq : v = .slice q.a q.len q.cap ∧ q.len ≤ q.cap ∧ q.cap ≤ maxLen ∧ ∃ f : Nat → Int, Row w w.heap.size .i64 v q.len f ∧ ∀ i, i < q.len → -9223372036854775808 ≤ f i ∧ f i ≤ 9223372036854775807) (hf1 : -9223372036854775808 ≤ fo) (hf2 : fo ≤ 9223372036854775807) :
    Calls Try.prog 5 #[v, .int .i64 fo] w fun e w' => e = .returned (.bool true) ∧ Below w.heap.size w w' := by
  obtain ⟨rfl, hle, hmx, f, hrow, hfb⟩ := hq
  have ROW := Lib.hid hrow; have FB := Lib.hid hfb
  obtain ⟨len, hlen⟩ : ∃ len, len = q.len := ⟨_, rfl⟩
  obtain ⟨qa, hqa⟩ : ∃ qa, qa = q.a := ⟨_, rfl⟩
  obtain ⟨qc, hqc⟩ : ∃ qc, qc = q.cap := ⟨_, rfl⟩
  rw [← hlen, ← hqa, ← hqc] at ROW
  rw [← hlen] at FB
  have LM := Lib.hid (show len ≤ 9223372036854775807 by simp only [maxLen] at hmx; omega)
  rw [← hlen, ← hqa, ← hqc]
  clear hrow hfb hle hmx hlen hqa hqc
  have CA := Lib.hid (awake14_any w)
  go_enter Try.func5, Try.ntmps5
  go_wp2_with fail
  refine CA.out.mono ?_
  rintro e w1 ⟨rfl, hb⟩
  have B1 := Lib.hid hb
  clear hb CA
  have CM := memory_good 32 w1 (by omega) (by omega)
  rw [show ((32 : Nat) : Int) = 32 from rfl] at CM
  have CM := Lib.hid CM
  go_wp2_with fail
  refine CM.out.mono ?_
  rintro e w2 ⟨gs, r, rfl, hS, hb⟩
  have S2 := Lib.hid (show Sh w2 w.heap.size gs r (List.replicate 32 Pg.zero) from ⟨hS.box, hS.row, hS.one, hS.most, Nat.le_trans B1.out.size hS.bg, Nat.le_trans B1.out.size hS.br⟩)
  have B2 := Lib.hid (below_then B1.out hb B1.out.size)
  clear hS hb CM B1
  as_aux_lemma =>
    go_wp2_with fail
    refine (ss_new S2.out B2.out.size).mono ?_
    rintro e w3 ⟨g, b, rfl, hs, hb, -, -⟩
    have V3 := Lib.hid (sv_zero hs)
    have B3 := Lib.hid (below_then B2.out hb B2.out.size)
    clear hs hb S2 B2
    as_aux_lemma =>
      have CF := Lib.hid (format_good V3.out (by omega) 32 (by omega) (by omega) (by decide))
      rw [show ((32 : Nat) : Int) = 32 from rfl] at CF
      go_wp2_with fail
      refine CF.out.mono ?_
      rintro e w4 ⟨rfl, hs, hg⟩
      have V4 := Lib.hid hs
      have O4 := Lib.hid (vol_new pz 32 (by omega) (by omega))
      rw [show (((32 : Nat) : Int)) = 32 from rfl] at O4
      rw [ow0_N, st0_N] at O4
      have B4 := Lib.hid (bl_grow B3.out hg (fun k hk => by cases hk; exact V3.out.b_ge) B3.out.size)
      generalize upd (upd pz 0 dir0) 1 (mapN 32) = pg4 at *
      clear hs hg CF V3 B3
      as_aux_lemma =>
        have CL := Lib.hid (land_any V4.out B4.out 0)
        go_wp2_with fail
        refine CL.out.mono ?_
        rintro e w5 ⟨rfl, hs, hb⟩
        have V5 := Lib.hid (show SV w5 w.heap.size g b gs r 32 0 pg4 pg4 from hs)
        have B5 := Lib.hid hb
        clear hs hb CL V4 B4
        as_aux_lemma =>
          go_wp2_with fail
          go_loopw [41, 8] (fun i nn wr => ∃ (j c : Nat) (pg : Nat → Pg) (kd rt : Nat → Nat), j ≤ len ∧ c ≤ 6 ∧ i = .int .i64 j ∧ nn = .int .i64 c ∧ SV wr w.heap.size g b gs r 32 0 pg pg ∧ Vol pg 32 (stN c) kd rt (owN c) ∧ Below w.heap.size w wr) (fun i _ _ => len - (intOf i).toNat)
          case atStart => exact ⟨0, 0, pg4, _, _, Nat.zero_le _, Nat.zero_le _, rfl, rfl, V5.out, O4.out, B5.out⟩
          case round =>
            clear V5 B5 O4
            obtain ⟨j, c, pg, kd, rt, hj, hc, rfl, rfl, hs, hv, hb⟩ := hrel
            have V6 := Lib.hid hs; have O6 := Lib.hid hv; have B6 := Lib.hid hb
            clear hs hv hb
            by_cases hlt : j < len
            · have HLT := Lib.hid hlt
              have hjb : j < 9223372036854775807 := by have := LM.out; omega
              obtain ⟨a', c', e1, -, hat⟩ := ROW.out.below B6.out (Nat.le_refl _)
              obtain ⟨b1, off, e2, hb1, hra⟩ := hat (by omega)
              obtain ⟨rfl, rfl⟩ : qa = some ⟨b1, off, none⟩ ∧ qc = c' := by rw [e2] at e1; simpa using e1
              have r0 := hra j hlt
              have FJ := Lib.hid (FB.out j hlt)
              obtain ⟨k, hk⟩ : ∃ k, k = f j := ⟨_, rfl⟩
              rw [← hk] at r0 FJ
              have CK := Lib.hid (make_vol V6.out (n := 32) (by omega) O6.out (by decide) k)
              clear e1 hat e2 hb1 hra hk
              as_aux_lemma =>
                go_wp2_with fail
                refine CK.out.mono ?_
                rintro e w7 (⟨hkk, rfl, rfl⟩ | ⟨hkk, (⟨hfull, rfl, hb⟩ | ⟨j1, hj1, h0, hroom, -, -⟩ | ⟨j1, id, pg7, hj1, h0, hq, h2, hid, ho, hall, rfl, hs, hv, hg⟩)⟩)
                · have CL := Lib.hid (land_any V6.out B6.out 1)
                  clear CK r0 V6 B6
                  go_wp2_with fail
                  refine CL.out.mono ?_
                  rintro e w8 ⟨rfl, hs, hb⟩
                  rw [landed_same] at hs
                  have V8 := Lib.hid hs; have B8 := Lib.hid hb
                  clear hs hb CL
                  by_cases k1 : k < 1
                  · go_wp2
                    go_roundw
                    case rel => exact ⟨j + 1, c, pg, kd, rt, by have := HLT.out; omega, hc, by go_num, rfl, V8.out, O6.out, B8.out⟩
                    case measure => have := HLT.out; simp [intOf]; omega
                  · have k3 : (3 : Int) < k := by omega
                    go_wp2
                    go_roundw
                    case rel => exact ⟨j + 1, c, pg, kd, rt, by have := HLT.out; omega, hc, by go_num, rfl, V8.out, O6.out, B8.out⟩
                    case measure => have := HLT.out; simp [intOf]; omega
                · have V7 := Lib.hid (V6.out.kept hb)
                  have B7 := Lib.hid (below_then B6.out hb B6.out.size)
                  have c6 : c = 6 := by
                    have := (stN_ne c 5).1 (hfull 5 (by omega))
                    omega
                  have k1 : ¬ k < 1 := by omega
                  have k3 : ¬ (3 : Int) < k := by omega
                  subst c6
                  have CL := Lib.hid (land_any V7.out B7.out 192)
                  clear CK r0 V6 B6 V7 B7 hfull hb hkk
                  go_wp2_with fail
                  refine CL.out.mono ?_
                  rintro e w8 ⟨rfl, hs, hb⟩
                  rw [landed_same] at hs
                  have V8 := Lib.hid hs; have B8 := Lib.hid hb
                  clear hs hb CL
                  go_wp2
                  go_roundw
                  case rel => exact ⟨j + 1, 6, pg, kd, rt, by have := HLT.out; omega, hc, by go_num, rfl, V8.out, O6.out, B8.out⟩
                  case measure => have := HLT.out; simp [intOf]; omega
                · have := (owN_some c 31).1 (hroom 31 (by omega))
                  omega
                · obtain rfl : j1 = c := by
                    have h3 : ¬ j1 < c := fun h => (stN_ne c j1).2 h h0
                    by_cases e : c < j1
                    · exact absurd ((stN_ne c c).1 (hq c e)) (Nat.lt_irrefl _)
                    · omega
                  obtain rfl : id = j1 + 2 := by
                    have h3 := owN_none ho
                    by_cases e : j1 + 2 < id
                    · have := (owN_some j1 (j1 + 2)).1 (hall _ e); omega
                    · omega
                  rw [stN_put, owN_put] at hv
                  obtain ⟨kk, hkn⟩ : ∃ kk, kk = k.toNat := ⟨_, rfl⟩
                  rw [← hkn] at hv
                  have KE := Lib.hid (show k = (kk : Int) ∧ 1 ≤ kk ∧ kk ≤ 3 by omega)
                  have B7 := Lib.hid (bl_grow B6.out hg (fun k hk => by cases hk; exact V6.out.b_ge) B6.out.size)
                  have CL := Lib.hid (land_any hs B7.out 0)
                  have O7 := Lib.hid hv
                  have J6 := Lib.hid hj1
                  clear CK r0 V6 B6 B7 O6 hs hv hg h0 hq h2 hid ho hall hkk FJ hkn hc
                  obtain ⟨rfl, k1, k3⟩ := KE.out
                  have k1 : ¬ (kk : Int) < 1 := by omega
                  have k3 : ¬ (3 : Int) < (kk : Int) := by omega
                  as_aux_lemma =>
                    go_wp2_with fail
                    refine CL.out.mono ?_
                    rintro e w8 ⟨rfl, hs, hb⟩
                    have V8 := Lib.hid (show SV w8 w.heap.size g b gs r 32 0 pg7 pg7 from hs); have B8 := Lib.hid hb
                    clear hs hb CL
                    have n6 : ¬ (j1 : Int) = 6 := by omega
                    have n6b : ((j1 : Int) == 6) = false := by simp [n6]
                    have CD := Lib.hid (find_vol V8.out O7.out ((j1 : Int) + 1))
                    go_wp2_with fail
                    refine CD.out.mono ?_
                    rintro e w9 (⟨h, -, -⟩ | ⟨-, rfl, hb⟩)
                    · refine absurd ⟨by omega, by omega, ?_⟩ h
                      rw [show ((j1 : Int) + 1 - 1).toNat = j1 by omega]
                      exact (stN_ne _ _).2 (by omega)
                    have V9 := Lib.hid (V8.out.kept hb)
                    have B9 := Lib.hid (below_then B8.out hb B8.out.size)
                    clear hb CD V8 B8
                    have s1 : stN (j1 + 1) j1 = 1 := by unfold stN; rw [if_pos (by omega)]
                    rw [show ((j1 : Int) + 1 - 1).toNat = j1 by omega, put_at, put_at, s1]
                    go_wp2
                    go_roundw
                    case rel => exact ⟨j + 1, j1 + 1, pg7, _, _, by have := HLT.out; omega, by have := J6.out; omega, by go_num, by go_num, V9.out, O7.out, B9.out⟩
                    case measure => have := HLT.out; simp [intOf]; omega
            · obtain rfl : j = len := by omega
              clear hlt hj
              as_aux_lemma =>
                have CG := Lib.hid (forget_vol V6.out (n := 32) (by omega) O6.out (by decide) fo)
                go_wp2_with fail
                refine CG.out.mono ?_
                rintro e w7 (⟨hno, rfl, hb⟩ | ⟨hyes, rfl, pg7, hs, hv, hg⟩)
                · have B7 := Lib.hid (below_then B6.out hb B6.out.size)
                  have hn : fo < 1 ∨ (c : Int) < fo := by
                    by_cases h1 : fo < 1
                    · exact .inl h1
                    · by_cases h2 : (c : Int) < fo
                      · exact .inr h2
                      · exact absurd ⟨by omega, by omega, (stN_ne _ _).2 (by omega)⟩ hno
                  clear CG hno hb V6 B6 O6
                  by_cases h1 : fo < 1
                  · go_wp2
                    go_ret
                    exact ⟨rfl, B7.out⟩
                  · have h2 : (c : Int) < fo := by omega
                    go_wp2
                    go_ret
                    exact ⟨rfl, B7.out⟩
                · have hx := (stN_ne _ _).1 hyes.2.2
                  have h1 : ¬ fo < 1 := by omega
                  have h2 : ¬ (c : Int) < fo := by omega
                  have B7 := Lib.hid (bl_grow B6.out hg (fun k hk => by cases hk; exact V6.out.b_ge) B6.out.size)
                  have V7 := Lib.hid hs; have O7 := Lib.hid hv; have HX := Lib.hid hx
                  clear hs hv hg CG V6 B6 O6 hyes hx
                  as_aux_lemma =>
                    have CD := Lib.hid (find_vol V7.out O7.out fo)
                    go_wp2_with fail
                    refine CD.out.mono ?_
                    rintro e w8 (⟨-, rfl, hb⟩ | ⟨h, -, -⟩)
                    case inr => exact absurd (put_at _ _ _) h.2.2
                    have V8 := Lib.hid (V7.out.kept hb)
                    have B8 := Lib.hid (below_then B7.out hb B7.out.size)
                    clear hb CD V7 B7
                    as_aux_lemma =>
                      have CK := Lib.hid (make_vol V8.out (n := 32) (by omega) O7.out (by decide) 1)
                      go_wp2_with fail
                      refine CK.out.mono ?_
                      rintro e w9 (⟨hkk, -, -⟩ | ⟨-, (⟨h, -, -⟩ | ⟨j, hj, h0, h, -, -⟩ | ⟨j1, id, pg9, hj1, h0, hq, h2, hid, ho, hall, rfl, hs, hv, hg⟩)⟩)
                      · omega
                      · exact absurd (put_at _ _ _) (h (fo - 1).toNat (by have := HX.out; omega))
                      · have := h (fo + 1).toNat (by have := HX.out; omega)
                        unfold owF owN at this
                        rw [if_neg (show ¬ (fo + 1).toNat < 2 by omega), if_pos (show (fo + 1).toNat < c + 2 by omega), if_pos ⟨by omega, by congr 1; omega⟩] at this
                        cases this
                      · have hjf : (j1 : Int) + 1 = fo := by
                          have h3 : ¬ (fo - 1).toNat < j1 := fun h => absurd (put_at _ _ _) (hq _ h)
                          by_cases e : j1 = (fo - 1).toNat
                          · omega
                          · rw [put_ne _ _ e] at h0
                            have : ¬ j1 < c := fun h => (stN_ne c j1).2 h h0
                            omega
                        have B9 := Lib.hid (bl_grow B8.out hg (fun k hk => by cases hk; exact V8.out.b_ge) B8.out.size)
                        rw [hjf]
                        clear hs hv hg CK V8 B8 O7 h0 hq h2 hid ho hall hj1 hjf
                        go_wp2
                        go_ret
                        exact ⟨rfl, B9.out⟩
end Go.Proofs.Yteccaickdjbndaa
