/- The walk of DiskWhole. -/
import Derived.Test.YtlbpbegnknpckaaDskWhole1
import Derived.Deep.RegionLaw
import Derived.Deep.AppendLies
set_option linter.unusedVariables false
set_option linter.unusedSimpArgs false
namespace Go.Proofs.Ytlbpbegnknpckaa
open Go.RowKit

set_option maxRecDepth 100000 in
set_option maxHeartbeats 8000000 in
theorem whole_core (v0 v1 u : Value) (m0 m1 c : Nat) (tx0 tx1 : Nat → ByteArray) (kb : Nat → Bool) (w : World) (ht0 : Sq w w.heap.size v0 m0 (fun i => .string (tx0 i))) (ht1 : Sq w w.heap.size v1 m1 (fun i => .string (tx1 i)))
    (hm0 : m0 ≤ 8796093021952) (hm1 : m1 ≤ 8796093021952) (hsz0 : ∀ i, i < m0 → (tx0 i).size ≤ maxLen) (hsz1 : ∀ i, i < m1 → (tx1 i).size ≤ maxLen) (hk : Kp w w.heap.size u c kb) :
    Calls Try.prog 4 #[v0, v1, u] w fun e w' => e = .returned (.bool true) ∧ Below w.heap.size w w' := by
  obtain ⟨i0, hi, hz0, hz1, hz2⟩ := info_parts Try.info9
  have ca := awake_any w
  have cn := fun w => new_good 4 w (by omega) (by omega)
  have CA := Lib.hid ca; have CN := Lib.hid cn; have HZ0 := Lib.hid hsz0; have HZ1 := Lib.hid hsz1; have HK := Lib.hid hk; have CB := Lib.hid blank_any
  clear ca cn hsz0 hsz1 hk
  obtain ⟨a0, ac0, rfl, ht0⟩ := ht0
  obtain ⟨a1, ac1, rfl, ht1⟩ := ht1
  have HT0 := Lib.hid ht0; have HT1 := Lib.hid ht1; clear ht0 ht1
  go_enter Try.func4, Try.ntmps4
  go_wp2_with fail
  refine CA.out.mono ?_
  rintro e w1 ⟨rfl, hb1⟩
  go_wp2_with fail
  refine (CN.out w1).mono ?_
  rintro e w2 ⟨I, rfl, hd2, hb2⟩
  have S1 := Lib.hid hb1.size
  have W0 := Lib.hid (Wh.start hd2 (below_then hb1 hb2 hb1.size) hb1.size hb2.size rfl)
  clear hb1 hb2 hd2
  unfold Ids.ptr
  go_wp2
  generalize (w2.alloc (.cells #[.slice none 0 0, .slice none 0 0, .slice none 0 0, .slice none 0 0] 50)) = wA at *
  go_loopw [32] (fun i wr => ∃ (k : Nat) (p : Value) (S : Dsk) (mv : Nat → Value) (M : Nat → List ByteArray), k ≤ m0 ∧ i = .int .i64 k ∧ Wh w wr w1.heap.size w2.heap.size (I.with p) S mv M k 1 ∧ P1 S M) (fun i _ => m0 - (intOf i).toNat)
  case atStart => exact ⟨0, _, _, _, _, Nat.zero_le _, rfl, W0.out, P1.start⟩
  case round =>
    clear W0
    obtain ⟨k, p, S, mv, M, hk, rfl, R, hP⟩ := hrel
    by_cases hlt : k < m0
    · obtain ⟨b, off, rfl, hbB, hcell⟩ := HT0.out (by omega)
      have q0 : wr.cell? ⟨b, off + k, none⟩ = some (.string (tx0 k)) := by rw [R.bel.cell (p := ⟨b, off + k, none⟩) hbB]; exact hcell k hlt
      have cp := fun w => padded_any (tx0 k) w (HZ0.out k hlt)
      generalize tx0 k = x at *
      have CP := Lib.hid cp; have RR := Lib.hid R; have HP := Lib.hid hP
      clear cp R hP hcell
      go_wp2_with fail
      refine (CP.out _).mono ?_
      rintro e w4 ⟨rfl, hb4⟩
      have h4 := RR.out.kept hb4
      have cw := write_any h4.d ((k % 4 : Nat) : Int) (pad x) h4.size (by have := h4.lv.pend; omega)
      have H4 := Lib.hid h4
      clear hb4 h4
      by_cases h64 : (pad x).size = 64
      · rw [H4.out.lv.write_e (k % 4) _ (by omega) h64, show ((k % 4 : Nat) : Int) = (k : Int) % 4 by omega] at cw
        have C := Lib.hid cw
        clear cw
        unfold Ids.ptr Ids.with at C
        go_wp2_with fail
        refine C.out.mono ?_
        rintro e w5 ⟨rfl, p5, hd5, ho5⟩
        have h5 := H4.out.dev_step (p := p5) ho5 hd5 (H4.out.lv.wrote (k % 4) (pad x))
        have H5 := Lib.hid h5
        clear h5 hd5 ho5 C
        go_wp2_with fail
        refine (CP.out _).mono ?_
        rintro e w6 ⟨rfl, hb6⟩
        have h6 := H5.out.kept hb6
        have hal := h6.r.arr.alloc (.cells #[.string (pad x)] 9)
        have ff := hal.fz (k % 4)
        have cc := hal.cell (k % 4)
        rw [a4_get _ _ (by omega)] at cc
        have h7 := h6.fresh (i := k % 4) (by omega) (pad x) (Nat.le_refl _)
        have HP7 := Lib.hid (HP.out.wrote RR.out.lv (i := k % 4) (by omega) (pad x))
        have H7 := Lib.hid h7
        clear h6 hb6 hal h7 H5 CP HP
        go_wp2
        go_roundw
        case rel => exact ⟨k + 1, p5, _, _, _, by omega, by go_num, H7.out, HP7.out⟩
        case measure => simp [intOf]; omega
      · rw [H4.out.lv.write_no _ _ h64, show ((k % 4 : Nat) : Int) = (k : Int) % 4 by omega] at cw
        have C := Lib.hid cw
        clear cw
        unfold Ids.ptr Ids.with at C
        go_wp2_with fail
        refine C.out.mono ?_
        rintro e w5 ⟨rfl, p5, hd5, ho5⟩
        have h5 := H4.out.dev_step (p := p5) ho5 hd5 (H4.out.lv.more (Nat.le_succ k))
        have H5 := Lib.hid h5
        clear h5 hd5 ho5 C CP
        go_wp2
        go_roundw
        case rel => exact ⟨k + 1, p5, _, _, _, by omega, by go_num, H5.out, HP.out⟩
        case measure => simp [intOf]; omega
    · obtain rfl : k = m0 := by omega
      obtain ⟨sy0, sy1, sy2, sy3, sy4⟩ := R.lv.sync
      have cb := barrier_any R.d
      rw [sy0] at cb
      have hP2 := hP.synced R.lv
      have CBa := Lib.hid cb; have RR := Lib.hid R; have SY1 := Lib.hid sy1; have SY4 := Lib.hid sy4; have HP2 := Lib.hid hP2
      clear cb R sy0 sy1 sy2 sy3 sy4 hP hP2
      unfold Ids.ptr Ids.with at CBa
      go_wp2_with fail
      refine CBa.out.mono ?_
      rintro e w5 ⟨rfl, p5, hd5, ho5⟩
      have h5 := RR.out.dev_step (p := p5) ho5 hd5 SY1.out
      have H5 := Lib.hid h5
      clear h5 hd5 ho5 CBa RR SY1
      generalize S.synced = T at *
      go_wp2
      go_loopw [54] (fun i wr => ∃ (j : Nat) (mv : Nat → Value) (M : Nat → List ByteArray), j ≤ 4 ∧ i = .int .i64 j ∧ Wh w wr w1.heap.size w2.heap.size (I.with p5) T mv M 0 1 ∧ P2 T M j) (fun i _ => 4 - (intOf i).toNat)
      case atStart => exact ⟨0, _, _, Nat.zero_le _, rfl, H5.out, HP2.out⟩
      case round =>
        clear H5 HP2
        obtain ⟨j, mv, M, hj, rfl, R, hP⟩ := hrel
        by_cases hj4 : j < 4
        · have cc := R.r.arr.cell j
          rw [a4_get _ _ hj4] at cc
          obtain ⟨ra, rc, ev⟩ := owns_val (R.r.row j hj4)
          rw [ev] at cc
          clear ev
          by_cases hM : M j = []
          · rw [hM] at cc
            have RR := Lib.hid R; have HP := Lib.hid hP
            clear R hP
            dsimp only [List.length_nil] at cc
            go_wp2_with fail
            refine (CB.out _).mono ?_
            rintro e w6 ⟨rfl, hb6⟩
            have h6 := RR.out.kept hb6
            have hal := h6.r.arr.alloc (.cells #[.string (Fr.zs 64)] 9)
            have ff := hal.fz j
            have cc := hal.cell j
            rw [a4_get _ _ hj4] at cc
            have h7 := h6.fresh (i := j) hj4 (Fr.zs 64) (Nat.le_refl _)
            have H7 := Lib.hid h7; have HP7 := Lib.hid (HP.out.fill hj4 hM)
            clear h6 hb6 hal h7 HP RR
            go_wp2
            go_roundw
            case rel => exact ⟨j + 1, _, _, by omega, by go_num, H7.out, HP7.out⟩
            case measure => simp [intOf]; omega
          · have hl : ¬ (M j).length = 0 := fun h => hM (List.length_eq_zero_iff.1 h)
            have RR := Lib.hid R; have HP := Lib.hid (hP.next hj4 hM)
            clear R hP
            go_wp2
            go_roundw
            case rel => exact ⟨j + 1, _, _, by omega, by go_num, RR.out, HP.out⟩
            case measure => simp [intOf]; omega
        · have e4 : j = 4 := by omega
          have H6 := Lib.hid R; have HP6 := Lib.hid ((e4 ▸ hP : P2 T M 4).done SY4.out)
          clear e4
          clear R hP
          go_wp2
          go_loopw [69] (fun i wr => ∃ (k : Nat) (p : Value) (S : Dsk) (mv : Nat → Value) (M : Nat → List ByteArray), k ≤ m1 ∧ i = .int .i64 k ∧ Wh w wr w1.heap.size w2.heap.size (I.with p) S mv M k (k + 1) ∧ P3 S M) (fun i _ => m1 - (intOf i).toNat)
          case atStart => exact ⟨0, p5, _, _, _, Nat.zero_le _, rfl, H6.out, HP6.out⟩
          case round =>
            clear H6 HP6
            obtain ⟨k, p, S, mv, M, hk, rfl, R, hP⟩ := hrel
            by_cases hlt : k < m1
            · obtain ⟨b, off, rfl, hbB, hcell⟩ := HT1.out (by omega)
              have q0 : wr.cell? ⟨b, off + k, none⟩ = some (.string (tx1 k)) := by rw [R.bel.cell (p := ⟨b, off + k, none⟩) hbB]; exact hcell k hlt
              have cp := fun w => padded_any (tx1 k) w (HZ1.out k hlt)
              generalize tx1 k = x at *
              have CP := Lib.hid cp; have RR := Lib.hid R; have HP := Lib.hid hP
              clear cp R hP hcell
              go_wp2_with fail
              refine (CP.out _).mono ?_
              rintro e w4 ⟨rfl, hb4⟩
              have h4 := RR.out.kept hb4
              have cw := write_any h4.d ((k % 4 : Nat) : Int) (pad x) h4.size (by have := h4.lv.pend; omega)
              have H4 := Lib.hid h4
              clear hb4 h4
              by_cases h64 : (pad x).size = 64
              · rw [H4.out.lv.write_e (k % 4) _ (by omega) h64, show ((k % 4 : Nat) : Int) = (k : Int) % 4 by omega] at cw
                have C := Lib.hid cw
                clear cw
                unfold Ids.ptr Ids.with at C
                go_wp2_with fail
                refine C.out.mono ?_
                rintro e w5 ⟨rfl, p6, hd5, ho5⟩
                have h5 := H4.out.dev_step (p := p6) ho5 hd5 (H4.out.lv.wrote (k % 4) (pad x))
                have hP5 := HP.out.wrote (k % 4) (pad x)
                have x0 := h5.r.arr.cell (k % 4)
                rw [a4_get _ _ (by omega)] at x0
                have hml := h5.most (k % 4) (by omega)
                have H5 := Lib.hid h5; have HP5 := Lib.hid hP5; have HML := Lib.hid hml
                have ix0 : (0 : Int) ≤ (k : Int) % 4 := by omega
                have ix1 : (k : Int) % 4 < 4 := by omega
                have etm : (k : Int).tmod 4 = (k : Int) % 4 := Int.tmod_eq_emod_of_nonneg (by omega)
                have etn : ((k : Int) % 4).toNat = k % 4 := by omega
                clear h5 hd5 ho5 C H4 RR HP hP5 hml
                go_wp2_with fail
                go_region_law? (first
                  | (go_simp; go_at_call 15; refine (CP.out _).mono ?_; rintro e w6 ⟨rfl, hb6⟩; have h6 := (H5.out.kept (w1 := w5.drew) (Below.refl _ _).drew).kept hb6; have x6 := h6.r.arr.cell (k % 4); rw [a4_get _ _ (by omega)] at x6; have h7 := h6.kept ((Below.refl _ _).alloc (Nat.le_refl _) (.cells #[.string (pad x)] 9)); have x7 := h7.r.arr.cell (k % 4); rw [a4_get _ _ (by omega)] at x7; have H7 := Lib.hid h7; clear h6 h7 hb6)
                  | (refine step_append_lies _ rfl _ _ 39 rfl w1.heap.size 9 i0 (.string ⟨#[]⟩) 1 16 Try.underlying39 hi hz0 hz1 hz2 rfl (by decide) (mv (k % 4)) (M (k % 4)).length ((M (k % 4)).map .string) rfl (H7.out.r.row (k % 4) (by omega)) ⟨w6.heap.size, 0, none⟩ 1 1 [.string (pad x)] rfl rfl (by intro j u hj; rw [Addr.add_lit, Nat.zero_add, (Bk.new w6 9 #[.string (pad x)]).cell j]; simpa using hj) (by intro u hu; simp at hu; subst hu; rfl) (by omega) (by have := HML.out; unfold maxLen; omega) (by have := HML.out; omega) H7.out.size _ rfl ?_; intro gp cap w8 hown hgrow hat hlt8; have b8 := H7.out.r.arr.grown hgrow (fun e => H7.out.row_arr (i := k % 4) (by omega) e.symm rfl); have x8 := b8.cell (k % 4); have f8 := b8.fz (k % 4); rw [a4_get _ _ (by omega)] at x8))
                all_goals
                  have h9 := H7.out.grown (i := k % 4) (by omega) (pad x) hown hgrow hat
                  have H9 := Lib.hid h9
                  clear h9 b8 x8 f8 hown hgrow hat hlt8 H7 x7 x6 x0 CP H5 HML
                  go_wp2
                  go_roundw
                  case rel => exact ⟨k + 1, p6, _, _, _, by omega, by go_num, H9.out, HP5.out⟩
                  case measure => simp [intOf]; omega
              · rw [H4.out.lv.write_no _ _ h64, show ((k % 4 : Nat) : Int) = (k : Int) % 4 by omega] at cw
                have C := Lib.hid cw
                clear cw
                unfold Ids.ptr Ids.with at C
                go_wp2_with fail
                refine C.out.mono ?_
                rintro e w5 ⟨rfl, p6, hd5, ho5⟩
                have h5 := (H4.out.dev_step (p := p6) ho5 hd5 (H4.out.lv.more (Nat.le_succ k))).more (Nat.le_refl _) (Nat.le_succ _)
                have H5 := Lib.hid h5
                clear h5 hd5 ho5 C CP
                go_wp2
                go_roundw
                case rel => exact ⟨k + 1, p6, _, _, _, by omega, by go_num, H5.out, HP.out⟩
                case measure => simp [intOf]; omega
            · obtain rfl : k = m1 := by omega
              have cc := crash_any R.d u c kb ((HK.out.kept R.bel (Nat.le_refl _)).mono S1.out)
              have hmem := hP.crash R.lv c kb
              have lT : Lv (S.crash c kb) 4 0 := Lv.start 4 _ (by rw [keepTo_length]; exact R.lv.len)
              have epT : (S.crash c kb).pend = [] := rfl
              have CC := Lib.hid cc; have RR := Lib.hid R; have MEM := Lib.hid hmem; have LT := Lib.hid lT; have EP := Lib.hid epT; have HMO := Lib.hid R.most
              clear cc R hP hmem lT epT
              generalize S.crash c kb = T' at *
              unfold Ids.ptr Ids.with at CC
              go_wp2_with fail
              refine CC.out.mono ?_
              rintro e w5 ⟨J, rfl, _, hj5, ho5, _⟩
              have r5 := RR.out.r.of_same (ho5.block w2.heap.size RR.out.r.arr.lt RR.out.arr_foot) fun i hi q hq => ho5.block q (owns_block (RR.out.r.row i hi) hq).2.1 (RR.out.row_foot hi hq)
              have b5 := RR.out.bel.trans ((ho5.below RR.out.size (fun q hq => (RR.out.d.foot_lt hq).1)).mono RR.out.hB)
              have R5 := Lib.hid r5; have B5 := Lib.hid b5; have HJ := Lib.hid hj5
              clear r5 b5 hj5 ho5 RR CC
              go_wp2
              go_loopw [96] (fun i ws => ∃ j : Nat, j ≤ 4 ∧ i = .int .i64 j ∧ ws = w5) (fun i _ => 4 - (intOf i).toNat)
              case atStart => exact ⟨0, by omega, rfl, rfl⟩
              case round =>
                obtain ⟨j, hj, rfl, rfl⟩ := hrel
                by_cases hj4 : j < 4
                · have cr := read_any HJ.out j
                  rw [LT.out.read j hj4] at cr
                  have hm := MEM.out j hj4
                  have hml := HMO.out j hj4
                  generalize T'.now.getD j ⟨#[]⟩ = s at *
                  obtain ⟨gp, rc, ev, hc⟩ := R5.out.cells hj4 (List.length_pos_of_mem hm)
                  have cc := R5.out.arr.cell j
                  rw [a4_get _ _ hj4, ev] at cc
                  have CR := Lib.hid cr; have HM := Lib.hid hm; have HC := Lib.hid hc
                  clear cr hm hc ev
                  dsimp only [Ids.ptr] at CR
                  go_wp2_with fail
                  refine CR.out.mono ?_
                  rintro e w7 ⟨rfl, hw⟩
                  subst w7
                  go_wp2
                  go_loopw [109, 19] (fun i f ws => ∃ (q : Nat) (fb : Bool), q ≤ (M j).length ∧ i = .int .i64 q ∧ f = .bool fb ∧ (∀ l, l < q → (M j).getD l ⟨#[]⟩ = s → fb = true) ∧ ws = wr) (fun i f _ => (M j).length - (intOf i).toNat)
                  case atStart => exact ⟨0, false, Nat.zero_le _, rfl, rfl, fun l hl => absurd hl (Nat.not_lt_zero _), rfl⟩
                  case round =>
                    obtain ⟨q, fb, hq, rfl, rfl, hf, rfl⟩ := hrel
                    by_cases hlt : q < (M j).length
                    · have c0 := HC.out q hlt
                      generalize et : (M j).getD q ⟨#[]⟩ = t at *
                      have HF := Lib.hid hf
                      clear hf
                      cases fb
                      · go_wp2
                        go_roundw
                        case rel =>
                          refine ⟨q + 1, _, by omega, by go_num, rfl, fun l hl he => ?_, by first | rfl | trivial⟩
                          by_cases e : l = q
                          · subst e
                            have e2 : s = t := he.symm.trans et
                            first | exact str_eq_ e2 | simp [e2]
                          · have := HF.out l (by omega) he; cases this
                        case measure => simp [intOf]; omega
                      · go_wp2
                        go_roundw
                        case rel => exact ⟨q + 1, true, by omega, by go_num, rfl, fun _ _ _ => rfl, by first | rfl | trivial⟩
                        case measure => simp [intOf]; omega
                    · have efb : fb = true := by
                        obtain ⟨l, hl, he⟩ := List.getElem_of_mem HM.out
                        exact hf l (by omega) (by rw [List.getD_eq_getElem?_getD, List.getElem?_eq_getElem hl]; exact he)
                      subst efb
                      clear hf
                      go_wp2
                      go_roundw
                      case rel => exact ⟨j + 1, by omega, by go_num, by first | rfl | trivial⟩
                      case measure => simp [intOf]; omega
                · have cp := pending_any HJ.out
                  rw [EP.out] at cp
                  have CPD := Lib.hid cp
                  clear cp
                  dsimp only [Ids.ptr, List.length_nil] at CPD
                  go_wp2_with fail
                  refine CPD.out.mono ?_
                  rintro e w7 ⟨rfl, hw⟩
                  subst w7
                  go_wp2
                  go_ret
                  exact ⟨rfl, B5.out⟩
theorem walk_DiskWhole (v0 : Value) (q0 : Slq) (v1 : Value) (q1 : Slq) (u : Value) (q2 : Slq) (w : World) (h0 : IsTx w v0 q0) (s0 : q0.cap * 16 ≤ 140737488351232) (h1 : IsTx w v1 q1) (s1 : q1.cap * 16 ≤ 140737488351232) (h2 : IsBs w u q2) :
    Calls Try.prog 4 #[v0, v1, u] w fun e w' => e = .returned (.bool true) ∧ Below w.heap.size w w' := by
  obtain ⟨hs0, t0, ht0⟩ := h0
  obtain ⟨hs1, t1, ht1⟩ := h1
  obtain ⟨ks, kb, hkb⟩ := h2
  exact whole_core v0 v1 u q0.len q1.len q2.len t0 t1 kb w (Sq.of hs0 fun i hi => (ht0 i hi).1) (Sq.of hs1 fun i hi => (ht1 i hi).1) (by have := hs0.le; omega) (by have := hs1.le; omega) (fun i hi => (ht0 i hi).2) (fun i hi => (ht1 i hi).2) (Kp.of (Sq.of ks hkb))
end Go.Proofs.Ytlbpbegnknpckaa
