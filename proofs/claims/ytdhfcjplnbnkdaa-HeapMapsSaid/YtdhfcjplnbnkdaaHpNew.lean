/- A new heap; the anchor of stage 15's statements; land. -/
import Derived.Test.YtdhfcjplnbnkdaaHpIns
set_option linter.unusedVariables false
set_option linter.unusedSimpArgs false
namespace Go.Proofs.Ytdhfcjplnbnkdaa
open Go.RowKit Go.Maps

def pz : Nat → Pg := fun _ => Pg.zero
def pv (n : Int) : Nat → Pg := upd (upd pz 0 dir0) 1 (mapN n)
def L0 : Nat → Nat → Ce := fun _ _ => blank
theorem SV.b_ge {w : World} {B g b gs r N M : Nat} {und pg : Nat → Pg} (h : SV w B g b gs r N M und pg) : B ≤ b := h.bb
theorem sv_zero {w : World} {B g b m gs r N : Nat} (h : SS w B g b m gs r (List.replicate N Pg.zero) []) : SV w B g b gs r N m pz pz := by
  have := sv_made (und := pz) h (fun id hid => by
    rw [List.length_replicate] at hid
    rw [List.getD_eq_getElem?_getD, List.getElem?_replicate, if_pos hid]
    show pgB Pg.zero Pg.zero = true
    exact pgB_self _)
  rw [List.length_replicate] at this
  exact this
theorem hc_new (n : Nat) (h1 : 4 ≤ n) (h2 : n ≤ 1024) : Hc (upd (upd (upd (pv n) 1 (mrk (mapN n) 2 true)) 2 (newPg 1 0)) 0 (putC dir0 0 ⟨1, stoD 1 2⟩)) n [2] L0 := by
  have hv := (vol_new pz n h1 h2).make 0 2 (by omega) (by omega) (by omega) 1 (by omega)
  refine ⟨_, _, _, _, hv, ⟨by decide, by simp, fun p hp => ?_, fun i hi => ?_, fun p hp i hi => ?_, fun p hp i => rfl, fun i hi ho => ?_⟩, put_at _ _ _, put_at _ _ _, put_at _ _ _⟩
  · obtain rfl : p = 2 := by simpa using hp
    exact ⟨by omega, by omega, rfl, newPg_ok 1 0 (by omega), put_at _ _ _⟩
  · have : i < 1 := hi
    obtain rfl : i = 0 := by omega
    rfl
  · obtain rfl : p = 2 := by simpa using hp
    rfl
  · by_cases e : i = 2
    · exact .inr (by simp [e])
    · rw [put_ne _ _ e] at ho
      unfold ow0 at ho
      by_cases h : i < 2
      · exact .inl h
      · rw [if_neg h] at ho; cases ho
theorem make_heap {w : World} {B g b gs r N M n : Nat} {und : Nat → Pg} (h : SV w B g b gs r N M und (pv n)) (hn : n ≤ N) (h1 : 4 ≤ n) (h2 : n ≤ 1024) (hM : M + 2 < maxLen) :
    Calls Try.prog 12 #[.pointer (some ⟨g, 0, none⟩), .int .i64 1] w fun e w' => e = .returned (.tuple #[.int .i64 1, .int .i64 0]) ∧ ∃ pg', SV w' B g b gs r N (M + 3) und pg' ∧ Hc pg' n [2] L0 ∧ w.grownBy w' (some b) := by
  have own : ∀ i, i < 1632 → ownB (mapN n) i = decide (i < 2) := fun i hi => mapN_own n h1 h2 i hi
  refine (make_1 h (by omega) hn rfl dir0_ok (mapN_ok n h1 h2) hM).mono ?_
  rintro e w' (⟨hf, _⟩ | ⟨j, _, _, hf, _⟩ | ⟨j, id, hj, h0, hq, hi, hn1, ha, he, hs, hg⟩)
  · exact absurd rfl (hf 0 (by omega))
  · have := hf 2 (by omega)
    rw [show (pv n) 1 = mapN n from rfl, own 2 (by omega)] at this
    cases this
  · have j0 : j = 0 := by
      rcases Nat.eq_zero_or_pos j with e | e
      · exact e
      · exact absurd rfl (hq 0 e)
    have i2 : id = 2 := by
      rw [show (pv n) 1 = mapN n from rfl, own id (by omega)] at hn1
      have h3 : ¬ id < 2 := by simpa using hn1
      by_cases h4 : id = 2
      · exact h4
      · have := ha 2 (by omega)
        rw [show (pv n) 1 = mapN n from rfl, own 2 (by omega)] at this
        cases this
    subst j0; subst i2
    exact ⟨he, _, hs, hc_new n h1 h2, hg⟩
theorem no_keep (w : World) (B : Nat) (f : Nat → Int) : Row w B .i64 (.slice none 0 0) 0 f := ⟨none, 0, rfl, fun _ => ⟨rfl, rfl⟩, fun h => absurd h (Nat.lt_irrefl 0)⟩
def sA : ByteArray := ⟨#[97]⟩
set_option maxRecDepth 100000 in
set_option maxHeartbeats 6000000 in
theorem awake15_any (w : World) : Calls Try.prog 8 #[] w fun e w' => e = .returned (.bool true) ∧ Below w.heap.size w w' := by
  have CM := memory_good 8 w (by omega) (by omega)
  rw [show ((8 : Nat) : Int) = 8 from rfl] at CM
  have CM := Lib.hid CM
  go_enter Try.func8, Try.ntmps8
  go_wp2_with fail
  refine CM.out.mono ?_
  rintro e w1 ⟨gs, r, rfl, hS, hb⟩
  have S1 := Lib.hid hS; have B1 := Lib.hid hb
  clear hS hb CM
  go_wp2_with fail
  refine (ss_new S1.out B1.out.size).mono ?_
  rintro e w2 ⟨g, b, rfl, hs, hb, hg1, hb1⟩
  have B2 := Lib.hid (below_then B1.out hb B1.out.size)
  have V2 := Lib.hid (sv_zero hs)
  clear hs hb hg1 hb1 S1 B1
  as_aux_lemma =>
    have CF := Lib.hid (format_good V2.out (by omega) 8 (by omega) (by omega) (by decide))
    rw [show ((8 : Nat) : Int) = 8 from rfl] at CF
    go_wp2_with fail
    refine CF.out.mono ?_
    rintro e w3 ⟨rfl, hs, hg⟩
    have V3 := Lib.hid (show SV w3 w.heap.size g b gs r 8 2 pz (pv ((8 : Nat) : Int)) from hs)
    have B3 := Lib.hid (bl_grow B2.out hg (fun k hk => by cases hk; exact V2.out.b_ge) B2.out.size)
    clear hs hg CF V2 B2
    as_aux_lemma =>
      have CK := Lib.hid (make_heap V3.out (n := 8) (by omega) (by omega) (by omega) (by decide))
      go_wp2_with fail
      refine CK.out.mono ?_
      rintro e w4 ⟨rfl, pg4, hs, hc, hg⟩
      have V4 := Lib.hid hs; have H4 := Lib.hid hc
      have B4 := Lib.hid (bl_grow B3.out hg (fun k hk => by cases hk; exact V3.out.b_ge) B3.out.size)
      clear hs hc hg CK V3 B3
      as_aux_lemma =>
        have CI := Lib.hid (insert_any V4.out (n := 8) (by omega) H4.out (by decide) ⟨#[97]⟩ (.slice none 0 0) 0 (fun _ => 0) (by omega) (no_keep _ _ _))
        go_wp2_with fail
        refine CI.out.mono ?_
        have HX := Lib.hid (show free1 (pg4 (([2] : List Nat).getD 0 0)) (([2] : List Nat).getD 0 0) 0 (fun _ => 0) 0 from ⟨by
          have := H4.out.cell (p := 2) (by simp) (i := 0) (by omega)
          show ((pg4 2).c 0).st ≠ 1
          rw [this]; decide, fun ⟨k, hk, _⟩ => by omega⟩)
        rintro e w5 (⟨h, -, -⟩ | ⟨-, -, hnx, -⟩ | ⟨p, s, -, -, -, -, -, rfl, hx, M5, pg5, ch5, hm5, hM5, hs, hc, hg⟩)
        · exact absurd h (by decide)
        · exact absurd HX.out hnx
        obtain ⟨rfl, rfl⟩ := hx HX.out
        change SV w5 _ _ _ _ _ _ _ _ _ at hs
        rw [show ((([2] : List Nat).getD 0 0 : Nat) : Int) * 8 + ((0 : Nat) : Int) = 16 from rfl]
        rw [show (([2] : List Nat).getD 0 0) = 2 from rfl] at hm5 hc
        obtain ⟨u5, hu5⟩ : ∃ u5, u5 = (udC ((([2] : List Nat).getD 0 0 : Nat) : Int) ((0 : Nat) : Int) (L0 (([2] : List Nat).getD 0 0) 0)) := ⟨_, rfl⟩
        rw [← hu5]
        clear hu5
        have V5 := Lib.hid (hs.alloc (.cells u5.cs 45)); have H5 := Lib.hid hc; have M5L := Lib.hid hM5; have MM5 := Lib.hid hm5
        have B5 := Lib.hid ((bl_grow B4.out hg (fun k hk => by cases hk; exact V4.out.b_ge) B4.out.size).alloc (Nat.le_trans B4.out.size hg.size) (.cells u5.cs 45))
        clear hs hc hg hx CI V4 B4 HX H4 hm5 hM5
        as_aux_lemma =>
          go_upto_region 6 with (refine store_ud_new rfl _ _ rfl u5 rfl rfl ?_; generalize w5.alloc (.cells u5.cs 45) = w6 at *)
          have CD := Lib.hid (delete_any V5.out (n := 8) (by omega) H5.out (by have := M5L.out; simp only [maxLen]; omega) 16 (by omega))
          go_wp2_with fail
          refine CD.out.mono ?_
          rintro e w7 (⟨hno, -, -⟩ | ⟨p, s, hs6, hid, hmem, hst, rfl, pg7, hs, hc, hg⟩)
          · exact absurd ((rcP_nat _ 2 0 (by omega)).2 (by rw [putL_at])) hno
          obtain rfl : s = 0 := by omega
          obtain rfl : p = 2 := by omega
          rw [putL_at] at hc ⊢
          have V7 := Lib.hid (hs.alloc (.cells (udC ((2 : Nat) : Int) ((0 : Nat) : Int) ⟨1, ⟨#[97]⟩⟩).cs 45)); have H7 := Lib.hid hc
          have B7 := Lib.hid ((bl_grow B5.out hg (fun k hk => by cases hk; exact V5.out.b_ge) B5.out.size).alloc (Nat.le_trans B5.out.size hg.size) (.cells (udC ((2 : Nat) : Int) ((0 : Nat) : Int) ⟨1, ⟨#[97]⟩⟩).cs 45))
          have KU := Lib.hid (Bk.new w7 45 (udC ((2 : Nat) : Int) ((0 : Nat) : Int) ⟨1, ⟨#[97]⟩⟩).cs)
          obtain ⟨U, hU⟩ : ∃ U, U = w7.heap.size := ⟨_, rfl⟩
          rw [← hU] at KU
          clear hs hc hg CD V5 B5 H5 hs6 hid hmem hst
          as_aux_lemma =>
            go_upto_region 7 with (refine store_ud_new rfl _ _ rfl (udC ((2 : Nat) : Int) ((0 : Nat) : Int) ⟨1, ⟨#[97]⟩⟩) rfl rfl ?_; rw [← hU]; clear hU; generalize w7.alloc (.cells (udC ((2 : Nat) : Int) ((0 : Nat) : Int) ⟨1, ⟨#[97]⟩⟩).cs 45) = w8 at *)
            have CR := Lib.hid (read_any V7.out (n := 8) (by omega) H7.out 16 (by omega))
            go_wp2_with fail
            refine CR.out.mono ?_
            rintro e w9 ⟨⟨hr, -⟩ | ⟨-, rfl⟩, hb⟩
            · have := (rcP_nat _ 2 0 (by omega)).1 hr
              rw [putL_at] at this; cases this
            have V9 := Lib.hid (V7.out.kept hb); have KU9 := Lib.hid (KU.out.kept hb); have B9 := Lib.hid (below_then B7.out hb B7.out.size)
            clear hb CR V7 B7 KU
            have PO := (H7.out.page 0 H7.out.len.1)
            have M7 := H7.out.mem MM5.out
            obtain ⟨q, hq, hq2⟩ := mem_getD MM5.out
            have PQ := (H7.out.page q hq).2.2.2.2.2
            rw [hq2] at PQ
            have CS := Lib.hid (restore_any V9.out 2 (by omega) 0 (by omega) PQ ⟨1, ⟨#[97]⟩⟩ (.inr ⟨.inl rfl, by decide⟩) (by have := M5L.out; simp only [maxLen]; omega))
            have H8 := Lib.hid (H7.out.lay MM5.out (i := 0) (by omega) ⟨1, ⟨#[97]⟩⟩ (.inr ⟨.inl rfl, by decide⟩))
            clear PO M7 hq hq2 PQ
            as_aux_lemma =>
              go_wp2_with (refine load_ud rfl _ rfl U (udC ((2 : Nat) : Int) ((0 : Nat) : Int) ⟨1, ⟨#[97]⟩⟩) rfl KU9.out ?_)
              refine CS.out.mono ?_
              rintro e wa ⟨rfl, hs, hg⟩
              have VA := Lib.hid hs
              have BA := Lib.hid (bl_grow B9.out hg (fun k hk => by cases hk; exact V9.out.b_ge) B9.out.size)
              clear hs hg CS V9 B9 KU9 H7
              as_aux_lemma =>
                have CR := Lib.hid (read_any VA.out (n := 8) (by omega) H8.out 16 (by omega))
                go_wp2_with fail
                refine CR.out.mono ?_
                rintro e wb ⟨⟨-, rfl⟩ | ⟨hr, -⟩, hb⟩
                · rw [show (16 : Int).toNat / 8 = 2 from rfl, show (16 : Int).toNat % 8 = 0 from rfl, putL_at]
                  have BB := Lib.hid (below_then BA.out hb BA.out.size)
                  clear hb CR VA BA H8
                  go_wp2
                  go_ret
                  exact ⟨rfl, BB.out⟩
                · exact absurd ((rcP_nat _ 2 0 (by omega)).2 (by rw [putL_at])) hr
end Go.Proofs.Ytdhfcjplnbnkdaa
