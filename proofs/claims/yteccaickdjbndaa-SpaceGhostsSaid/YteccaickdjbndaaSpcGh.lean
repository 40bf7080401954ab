/- SpaceGhosts. -/
import Derived.Test.YteccaickdjbndaaSpcPre
set_option linter.unusedVariables false
set_option linter.unusedSimpArgs false
namespace Go.Proofs.Yteccaickdjbndaa
open Go.RowKit Go.Maps

set_option maxRecDepth 100000 in
set_option maxHeartbeats 8000000 in
theorem walk_SpaceGhosts (k : Int) (back : Bool) (w : World) (hk1 : -9223372036854775808 ≤ k) (hk2 : k ≤ 9223372036854775807) :
    Calls Try.prog 6 #[.int .i64 k, .bool back] w fun e w' => e = .returned (.bool true) ∧ Below w.heap.size w w' := by
  have CA := Lib.hid (awake14_any w)
  go_enter Try.func6, Try.ntmps6
  go_wp2_with fail
  refine CA.out.mono ?_
  rintro e w1 ⟨rfl, hb⟩
  have B1 := Lib.hid hb
  clear hb CA
  have CM := memory_good 16 w1 (by omega) (by omega)
  rw [show ((16 : Nat) : Int) = 16 from rfl] at CM
  have CM := Lib.hid CM
  go_wp2_with fail
  refine CM.out.mono ?_
  rintro e w2 ⟨gs, r, rfl, hS, hb⟩
  have S2 := Lib.hid (show Sh w2 w.heap.size gs r (List.replicate 16 Pg.zero) from ⟨hS.box, hS.row, hS.one, hS.most, Nat.le_trans B1.out.size hS.bg, Nat.le_trans B1.out.size hS.br⟩)
  have B2 := Lib.hid (below_then B1.out hb B1.out.size)
  clear hS hb CM B1
  as_aux_lemma =>
    go_wp2_with fail
    refine (ss_new S2.out B2.out.size).mono ?_
    rintro e w3 ⟨g, b, rfl, hs, hb, -, -⟩
    have V3 := Lib.hid (sv_zero hs)
    have B3 := Lib.hid (below_then B2.out hb B2.out.size)
    clear hs hb S2 B2
    as_aux_lemma =>
      have CF := Lib.hid (format_good V3.out (by omega) 16 (by omega) (by omega) (by decide))
      rw [show ((16 : Nat) : Int) = 16 from rfl] at CF
      go_wp2_with fail
      refine CF.out.mono ?_
      rintro e w4 ⟨rfl, hs, hg⟩
      have V4 := Lib.hid hs
      have O4 := Lib.hid (vol_new pz 16 (by omega) (by omega))
      rw [show (((16 : Nat) : Int)) = 16 from rfl] at O4
      have B4 := Lib.hid (bl_grow B3.out hg (fun k hk => by cases hk; exact V3.out.b_ge) B3.out.size)
      generalize upd (upd pz 0 dir0) 1 (mapN 16) = pg4 at *
      clear hs hg CF V3 B3
      as_aux_lemma =>
        have CK := Lib.hid (make_vol V4.out (n := 16) (by omega) O4.out (by decide) k)
        go_wp2_with fail
        refine CK.out.mono ?_
        rintro e w5 (⟨hkk, rfl, rfl⟩ | ⟨hkk, (⟨h, -, -⟩ | ⟨j, hj, h0, h, -, -⟩ | ⟨j, id, pg5, hj, h0, hq, h2, hid, ho, hall, rfl, hs, hv, hg⟩)⟩)
        · have B5 := Lib.hid B4.out
          clear CK V4
          by_cases k1 : k < 1
          · go_wp2
            go_ret
            exact ⟨rfl, B5.out⟩
          · have k3 : (3 : Int) < k := by omega
            go_wp2
            go_ret
            exact ⟨rfl, B5.out⟩
        · exact absurd rfl (h 0 (by omega))
        · have := h 2 (by omega)
          unfold ow0 at this
          cases this
        obtain rfl : j = 0 := by
          rcases Nat.eq_zero_or_pos j with e | e
          · exact e
          · exact absurd rfl (hq 0 e)
        obtain rfl : id = 2 := by
          by_cases e : id = 2
          · exact e
          · have := hall 2 (by omega)
            unfold ow0 at this
            cases this
        obtain ⟨kk, hkn⟩ : ∃ kk, kk = k.toNat := ⟨_, rfl⟩
        rw [← hkn] at hv
        have KE := Lib.hid (show k = (kk : Int) ∧ 1 ≤ kk ∧ kk ≤ 3 by omega)
        have V5 := Lib.hid hs; have O5 := Lib.hid hv
        have B5 := Lib.hid (bl_grow B4.out hg (fun k hk => by cases hk; exact V4.out.b_ge) B4.out.size)
        clear hs hv hg CK V4 O4 B4 h0 hq h2 hid ho hall hj hkk hkn hk1 hk2
        obtain ⟨rfl, -⟩ := KE.out
        as_aux_lemma =>
          have CD := Lib.hid (find_vol V5.out O5.out 1)
          go_wp2_with fail
          refine CD.out.mono ?_
          rintro e w6 (⟨h, -, -⟩ | ⟨-, rfl, hb⟩)
          · exact absurd ⟨by decide, by decide, by decide⟩ h
          have V6 := Lib.hid (V5.out.kept hb)
          have B6 := Lib.hid (below_then B5.out hb B5.out.size)
          clear hb CD V5 B5
          rw [show ((1 : Int) - 1).toNat = 0 from rfl, put_at, put_at, put_at]
          as_aux_lemma =>
            have CS := Lib.hid (state_vol V6.out (n := 16) (by omega) O5.out (by decide) 1 2)
            go_wp2_with fail
            refine CS.out.mono ?_
            rintro e w7 (⟨h, -, -⟩ | ⟨-, rfl, pg7, hs, hv, hg⟩)
            · exact absurd ⟨⟨by decide, by decide, by decide⟩, by decide⟩ h
            rw [show ((1 : Int) - 1).toNat = 0 from rfl] at hv
            have V7 := Lib.hid hs; have O7 := Lib.hid hv
            have B7 := Lib.hid (bl_grow B6.out hg (fun k hk => by cases hk; exact V6.out.b_ge) B6.out.size)
            clear hs hv hg CS V6 O5 B6
            as_aux_lemma =>
              have CK := Lib.hid (make_vol V7.out (n := 16) (by omega) O7.out (by decide) 1)
              go_wp2_with fail
              refine CK.out.mono ?_
              rintro e w8 (⟨hkk, -, -⟩ | ⟨-, (⟨h, -, -⟩ | ⟨j, hj, h0, h, -, -⟩ | ⟨j, id, pg8, hj, h0, hq, h2, hid, ho, hall, rfl, hs, hv, hg⟩)⟩)
              · omega
              · exact absurd rfl (h 1 (by omega))
              · have := h 3 (by omega)
                cases this
              obtain rfl : j = 1 := by
                by_cases e0 : j = 0
                · subst e0; cases h0
                · by_cases e : j = 1
                  · exact e
                  · exact absurd rfl (hq 1 (by omega))
              obtain rfl : id = 3 := by
                by_cases e : id = 3
                · exact e
                · by_cases e2 : id = 2
                  · subst e2; cases ho
                  · have := hall 3 (by omega)
                    cases this
              have V8 := Lib.hid hs; have O8 := Lib.hid hv
              have B8 := Lib.hid (bl_grow B7.out hg (fun k hk => by cases hk; exact V7.out.b_ge) B7.out.size)
              clear hs hv hg CK V7 O7 B7 h0 hq h2 hid ho hall hj
              as_aux_lemma =>
                cases hbk : back with
                | true =>
                  have CS := Lib.hid (state_vol V8.out (n := 16) (by omega) O8.out (by decide) 1 1)
                  go_wp2_with fail
                  refine CS.out.mono ?_
                  rintro e w9 (⟨h, -, -⟩ | ⟨-, rfl, pg9, hs, hv, hg⟩)
                  · exact absurd ⟨⟨by decide, by decide, by decide⟩, by decide⟩ h
                  rw [show ((1 : Int) - 1).toNat = 0 from rfl] at hv
                  have V9 := Lib.hid hs; have O9 := Lib.hid hv
                  have B9 := Lib.hid (bl_grow B8.out hg (fun k hk => by cases hk; exact V8.out.b_ge) B8.out.size)
                  clear hs hv hg CS V8 O8 B8
                  as_aux_lemma =>
                    have CD := Lib.hid (find_vol V9.out O9.out 1)
                    go_wp2_with fail
                    refine CD.out.mono ?_
                    rintro e wa (⟨h, -, -⟩ | ⟨-, rfl, hb⟩)
                    · exact absurd ⟨by decide, by decide, by decide⟩ h
                    have BA := Lib.hid (below_then B9.out hb B9.out.size)
                    clear hb CD V9 B9
                    simp only [show ((1 : Int) - 1).toNat = 0 from rfl, put_at, fun (α : Type) (f : Nat → α) (x : α) => put_ne (i := 0) (j := 1) f x (by decide)]
                    go_wp2
                    go_ret
                    exact ⟨rfl, BA.out⟩
                | false =>
                  have CG := Lib.hid (forget_vol V8.out (n := 16) (by omega) O8.out (by decide) 1)
                  go_wp2_with fail
                  refine CG.out.mono ?_
                  rintro e w9 (⟨h, -, -⟩ | ⟨-, rfl, pg9, hs, hv, hg⟩)
                  · exact absurd ⟨by decide, by decide, by decide⟩ h
                  rw [show ((1 : Int) - 1).toNat = 0 from rfl] at hv
                  have V9 := Lib.hid hs; have O9 := Lib.hid hv
                  have B9 := Lib.hid (bl_grow B8.out hg (fun k hk => by cases hk; exact V8.out.b_ge) B8.out.size)
                  clear hs hv hg CG V8 O8 B8
                  as_aux_lemma =>
                    have CK := Lib.hid (make_vol V9.out (n := 16) (by omega) O9.out (by decide) 2)
                    go_wp2_with fail
                    refine CK.out.mono ?_
                    rintro e wa (⟨hkk, -, -⟩ | ⟨-, (⟨h, -, -⟩ | ⟨j, hj, h0, h, -, -⟩ | ⟨j, id, pga, hj, h0, hq, h2, hid, ho, hall, rfl, hs, hv, hg⟩)⟩)
                    · omega
                    · exact absurd rfl (h 0 (by omega))
                    · have := h 2 (by omega)
                      cases this
                    obtain rfl : j = 0 := by
                      by_cases e0 : j = 0
                      · exact e0
                      · exact absurd rfl (hq 0 (by omega))
                    obtain rfl : id = 2 := by
                      by_cases e : id = 2
                      · exact e
                      · have := hall 2 (by omega)
                        cases this
                    have VA := Lib.hid hs; have OA := Lib.hid hv
                    have BA := Lib.hid (bl_grow B9.out hg (fun k hk => by cases hk; exact V9.out.b_ge) B9.out.size)
                    clear hs hv hg CK V9 O9 B9 h0 hq h2 hid ho hall hj
                    as_aux_lemma =>
                      have CD := Lib.hid (find_vol VA.out OA.out 1)
                      go_wp2_with fail
                      refine CD.out.mono ?_
                      rintro e wb (⟨h, -, -⟩ | ⟨-, rfl, hb⟩)
                      · exact absurd ⟨by decide, by decide, by decide⟩ h
                      have BB := Lib.hid (below_then BA.out hb BA.out.size)
                      clear hb CD VA BA
                      rw [show ((1 : Int) - 1).toNat = 0 from rfl, put_at, put_at]
                      go_wp2
                      go_ret
                      exact ⟨rfl, BB.out⟩
end Go.Proofs.Yteccaickdjbndaa
