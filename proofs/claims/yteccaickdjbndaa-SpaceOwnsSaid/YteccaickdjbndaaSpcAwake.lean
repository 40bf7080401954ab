/- The anchor of stage 14's statements. -/
import Derived.Test.YteccaickdjbndaaSpcFacts
set_option linter.unusedVariables false
set_option linter.unusedSimpArgs false
namespace Go.Proofs.Yteccaickdjbndaa
open Go.RowKit Go.Maps

def pz : Nat → Pg := fun _ => Pg.zero
def pA : Nat → Pg := upd (upd pz 0 dir0) 1 (mapN 8)
theorem pA0 : pA 0 = dir0 := rfl
theorem pA1 : pA 1 = mapN 8 := rfl
theorem SV.b_ge {w : World} {B g b gs r N M : Nat} {und pg : Nat → Pg} (h : SV w B g b gs r N M und pg) : B ≤ b := by
  obtain ⟨m, ps, l, h0, _⟩ := h.ex
  exact h0.sg.bb
theorem make_first {w w' : World} {B g b gs r N M : Nat} {und : Nat → Pg} {e : Ending} (h : MakePost w B g b gs r N M 8 und pA 2 e w') :
    e = .returned (.tuple #[.int .i64 1, .int .i64 0]) ∧ SV w' B g b gs r N (M + 3) und (upd (upd (upd pA 1 (mrk (mapN 8) 2 true)) 2 (newPg 2 0)) 0 (putC dir0 0 ⟨1, stoD 2 2⟩)) ∧ w.grownBy w' (some b) := by
  have own : ∀ i, i < 1632 → ownB (mapN 8) i = decide (i < 2) := fun i hi => mapN_own 8 (by omega) (by omega) i hi
  rcases h with ⟨h, _⟩ | ⟨j, _, _, h, _⟩ | ⟨j, id, hj, h0, hq, hi, h1, ha, he, hs, hg⟩
  · exact absurd rfl (h 0 (by omega))
  · have := h 2 (by omega)
    rw [pA1, own 2 (by omega)] at this
    cases this
  · have j0 : j = 0 := by
      rcases Nat.eq_zero_or_pos j with e | e
      · exact e
      · exact absurd rfl (hq 0 e)
    have i2 : id = 2 := by
      rw [pA1, own id (by omega)] at h1
      have h2 : ¬ id < 2 := by simpa using h1
      by_cases h3 : id = 2
      · exact h3
      · have := ha 2 (by omega)
        rw [pA1, own 2 (by omega)] at this
        cases this
    subst j0; subst i2
    exact ⟨he, hs, hg⟩
set_option maxRecDepth 100000 in
set_option maxHeartbeats 4000000 in
theorem awake14_any (w : World) : Calls Try.prog 7 #[] w fun e w' => e = .returned (.bool true) ∧ Below w.heap.size w w' := by
  have CM := memory_good 8 w (by omega) (by omega)
  rw [show ((8 : Nat) : Int) = 8 from rfl] at CM
  have CM := Lib.hid CM
  have CN := Lib.hid (fun (w' : World) => format_nil 8 w')
  go_enter Try.func7, Try.ntmps7
  go_wp2_with fail
  refine CM.out.mono ?_
  rintro e w1 ⟨gs, r, rfl, hS, hb⟩
  have S1 := Lib.hid hS; have B1 := Lib.hid hb
  clear hS hb CM
  go_wp2_with fail
  refine (ss_new S1.out B1.out.size).mono ?_
  rintro e w2 ⟨g, b, rfl, hs, hb, hg1, hb1⟩
  have B2 := Lib.hid (below_then B1.out hb B1.out.size)
  have V2 := Lib.hid (show SV w2 w.heap.size g b gs r 8 0 pz pz from by
    have := sv_made (und := pz) hs (fun id hid => by
      rw [List.length_replicate] at hid
      rw [List.getD_eq_getElem?_getD, List.getElem?_replicate, if_pos hid]
      show pgB Pg.zero Pg.zero = true
      exact pgB_self _)
    rw [List.length_replicate] at this
    exact this)
  clear hs hb hg1 hb1 S1 B1
  as_aux_lemma =>
    have CF := Lib.hid (format_good V2.out (by omega) 8 (by omega) (by omega) (by decide))
    rw [show ((8 : Nat) : Int) = 8 from rfl] at CF
    go_wp2_with fail
    refine CF.out.mono ?_
    rintro e w3 ⟨rfl, hs, hg⟩
    have V3 := Lib.hid (show SV w3 w.heap.size g b gs r 8 2 pz pA from hs)
    have B3 := Lib.hid (bl_grow B2.out hg (fun k hk => by cases hk; exact V2.out.b_ge) B2.out.size)
    clear hs hg CF V2 B2
    as_aux_lemma =>
      have CK := Lib.hid (make_2 V3.out (n := 8) (by omega) (by omega) rfl dir0_ok (mapN_ok 8 (by omega) (by omega)) (by decide))
      go_wp2_with fail
      refine CK.out.mono ?_
      rintro e w4 hp
      obtain ⟨rfl, hs, hg⟩ := make_first hp
      have B4 := Lib.hid (bl_grow B3.out hg (fun k hk => by cases hk; exact V3.out.b_ge) B3.out.size)
      have CD := Lib.hid (find_good hs (fun i => if i = 0 then 2 else 0) (fun i => if i = 0 then 2 else 0) (DirOk.none.made 0 2 2 (by omega) (by omega)) 1)
      clear hp hs hg CK V3 B3
      as_aux_lemma =>
        go_wp2_with fail
        refine CD.out.mono ?_
        rintro e w5 (⟨h, -, -⟩ | ⟨h, rfl, hb⟩)
        · exact absurd ⟨by decide, by decide, by decide⟩ h
        have B5 := Lib.hid (below_then B4.out hb B4.out.size)
        clear h hb CD B4
        go_wp2_with fail
        refine (CN.out w5).mono ?_
        rintro e w6 ⟨rfl, rfl⟩
        go_wp2
        go_ret
        exact ⟨rfl, B5.out⟩
end Go.Proofs.Yteccaickdjbndaa
