/- The walk of DiskLast. -/
import Derived.Test.YtlbpbegnknpckaaDskLastRead
import Derived.Deep.QuietTactic
import Derived.BigQuiet
set_option linter.unusedVariables false
set_option linter.unusedSimpArgs false
namespace Go.Proofs.Ytlbpbegnknpckaa
open Go.RowKit

theorem sec_spell (at_ : Int) : ∃ a : Nat, a < 5 ∧ (wrap64 (at_.tmod 5 + 5)).tmod 5 = (a : Int) := by
  have h1 := Int.tmod_lt_of_pos at_ (show (0 : Int) < 5 by omega)
  have h2 := Int.lt_tmod_of_pos at_ (show (0 : Int) < 5 by omega)
  have h3 : wrap64 (at_.tmod 5 + 5) = at_.tmod 5 + 5 := IntWalk.wrap64_in _ ⟨by omega, by omega⟩
  rw [h3, Int.tmod_eq_emod_of_nonneg (by omega)]
  exact ⟨((at_.tmod 5 + 5) % 5).toNat, by omega, by omega⟩
theorem pad_small_ (s : ByteArray) (h : s.size ≤ 62) : (pad s).size = 64 := by
  unfold pad
  rw [if_neg (by omega), ByteArray.size_append, Fr.zs_size]
  omega
theorem now_other (S : Dsk) (i s : Nat) (d : ByteArray) (h : i ≠ s) : (S.write i d).1.now.getD s ⟨#[]⟩ = S.now.getD s ⟨#[]⟩ := by
  unfold Dsk.write
  split
  · rfl
  · split
    · split
      · rfl
      · show (S.now.set _ d).getD s ⟨#[]⟩ = _
        rw [Int.toNat_natCast, List.getD_eq_getElem?_getD, List.getElem?_set, if_neg h, ← List.getD_eq_getElem?_getD]
    · rfl

set_option maxHeartbeats 8000000 in
theorem last_core (wv bv : Value) (sector : Int) (mine : ByteArray) (m bc : Nat) (tx : Nat → ByteArray) (kb : Nat → Bool) (w : World) (ht : Sq w w.heap.size wv m (fun i => .string (tx i))) (hm : m ≤ 8796093022206) (hsz : ∀ i, i < m → (tx i).size ≤ maxLen) (hk : Sq w w.heap.size bv bc (fun i => .bool (kb i))) (hmine : mine.size ≤ 60) (hlo : -9223372036854775808 ≤ sector) (hhi : sector ≤ 9223372036854775807) :
    Calls Try.prog 6 #[.agg #[wv, .int .i64 sector, .string mine, bv]] w fun e w' => e = .returned (.bool true) ∧ Below w.heap.size w w' := by
  have cn := fun w => new_good 5 w (by omega) (by omega)
  have cm := fun w => padded_any mine w (by unfold maxLen; omega)
  have zm := pad_small_ mine (by omega)
  obtain ⟨s, hs5, hsec⟩ := sec_spell sector
  generalize pad mine = M at *
  have t60 : ¬ ((60 : Int) < (mine.size : Int)) := by omega
  have CN := Lib.hid cn; have HSZ := Lib.hid hsz; have CM := Lib.hid cm; have ZM := Lib.hid zm; have HS5 := Lib.hid hs5
  clear cn hsz cm zm
  obtain ⟨a, ac, rfl, ht⟩ := ht
  obtain ⟨a9, ac9, rfl, hk⟩ := hk
  have HT := Lib.hid ht; have HBS := Lib.hid hk; clear ht hk
  go_enter Try.func6, Try.ntmps6
  have gx := Bk.new w 55 #[.slice a m ac, .int .i64 sector, .string mine, .slice a9 bc ac9]
  have x0 := gx.cell 0; have x1 := gx.cell 1; have x2 := gx.cell 2; have x3 := gx.cell 3
  simp only [List.getElem?_toArray, List.getElem?_cons_zero, List.getElem?_cons_succ] at x0 x1 x2 x3
  clear gx
  go_wp2_with fail
  go_quiet (fail)
  go_wp2_with fail
  refine (awake_any _).mono ?_
  rintro e w1 ⟨rfl, hb1⟩
  have hB1 : Below w.heap.size w w1 := below_then (below_drewN ((Below.refl _ _).alloc (Nat.le_refl _) _) _) hb1 (by simp)
  clear x0 x1 x2 x3 hb1
  go_wp2_with fail
  refine (CN.out w1).mono ?_
  rintro e w2 ⟨I, rfl, hd2, hb2⟩
  have R0 := Lib.hid (Rd.mk (I := I) (p := I.p) hd2 (below_then hB1 hb2 hB1.size) (Lv.start 5 (blanks 5) (by simp [blanks])))
  have NL := Lib.hid (show (Dsk.start (blanks 5)).now.length = 5 from by simp [Dsk.start, blanks])
  generalize Dsk.start (blanks 5) = S0 at *
  have S1 := Lib.hid hB1.size
  clear hB1 hb2 hd2
  unfold Ids.ptr
  go_wp2_with fail
  refine (CM.out _).mono ?_
  rintro e w3 ⟨rfl, hb3⟩
  have hd3 := R0.out.dk.kept hb3
  have cw := write_any hd3 (s : Int) M (by have := hd3.box.lt; have := hd3.bg; omega) (by have := R0.out.lv.pend; omega)
  rw [R0.out.lv.write_e s M HS5.out ZM.out] at cw
  have HB3 := Lib.hid (below_then R0.out.bel hb3 R0.out.bel.size)
  have HF3 := Lib.hid (fun j hj => Nat.le_trans S1.out (hd3.foot_lt (k := j) hj).1)
  have CW := Lib.hid cw
  clear cw hb3 hd3
  dsimp only [Ids.ptr, Ids.with] at CW
  go_wp2_with fail
  refine CW.out.mono ?_
  rintro e w4 ⟨rfl, p4, hd4, ho4⟩
  have R4 := Lib.hid (Rd.mk (I := I) (p := p4) hd4 (HB3.out.trans (ho4.below HB3.out.size HF3.out)) (R0.out.lv.wrote s M))
  have N4 := Lib.hid (show (S0.wrote s M).now.getD s ⟨#[]⟩ = M from by
    show (S0.now.set s M).getD s ⟨#[]⟩ = M
    rw [List.getD_eq_getElem?_getD, List.getElem?_set, if_pos rfl, if_pos (by rw [NL.out]; exact HS5.out)]; rfl)
  clear hd4 ho4
  go_wp2
  go_loopw [49] (fun i wr => ∃ (k : Nat) (p : Value) (S : Dsk), k ≤ m ∧ i = .int .i64 k ∧ Rd w wr w1.heap.size I p S 5 (k + 1) ∧ S.now.getD s ⟨#[]⟩ = M) (fun i _ => m - (intOf i).toNat)
  case atStart => exact ⟨0, _, _, Nat.zero_le _, rfl, R4.out, N4.out⟩
  case round =>
    obtain ⟨k, p, S, hk, rfl, R, nr⟩ := hrel
    have HF := Lib.hid (show ∀ j, (I.with p).foot j → w.heap.size ≤ j from fun j hj => Nat.le_trans S1.out (R.dk.foot_lt hj).1)
    have RR := Lib.hid R; have NR := Lib.hid nr
    clear R nr
    by_cases hlt : k < m
    · obtain ⟨b, off, rfl, hbB, hcell⟩ := HT.out (by omega)
      have q0 : wr.cell? ⟨b, off + k, none⟩ = some (.string (tx k)) := by rw [RR.out.bel.cell (p := ⟨b, off + k, none⟩) hbB]; exact hcell k hlt
      have cp := fun w => padded_any (tx k) w (HSZ.out k hlt)
      have CP := Lib.hid cp
      clear cp hcell
      by_cases hkb : k < bc
      · obtain ⟨b9, off9, rfl, hbB9, hcell9⟩ := HBS.out (by omega)
        have h9 := hcell9 k hkb
        have HB9 := Lib.hid hbB9
        rcases hkk : kb k with _ | _
        · rw [hkk] at h9
          have HC9 := Lib.hid h9
          clear h9 hcell9 hbB9 hkk
          by_cases hne : k % 5 = s
          · have t5 : ((k : Int) % 5 != (s : Int)) = false := by simp; omega
            clear hne
            have RX := Lib.hid (Rd.mk (I := I) (p := p) RR.out.dk RR.out.bel (RR.out.lv.more (Nat.le_succ _)))
            have NX := NR
            have c9 : wr.cell? ⟨b9, off9 + k, none⟩ = some (.bool false) := by rw [RX.out.bel.cell (p := ⟨b9, off9 + k, none⟩) HB9.out]; exact HC9.out
            have l9 : b9 < wr.heap.size := by have := RX.out.bel.size; have := HB9.out; omega
            have RY := RX; have NY := NX
            have cr := read_any RY.out.dk (s : Int)
            rw [RY.out.lv.read s HS5.out, NY.out] at cr
            have CR := Lib.hid cr; clear cr
            dsimp only [Ids.ptr, Ids.with] at CR
            go_wp2_with fail
            refine CR.out.mono ?_
            rintro e wz ⟨rfl, hw⟩
            subst wz
            go_wp2_with fail
            refine (CM.out _).mono ?_
            rintro e wz ⟨rfl, hbz⟩
            have RZ := Lib.hid (Rd.mk (I := I) (p := p) (RY.out.dk.kept hbz) (below_then RY.out.bel hbz RY.out.bel.size) RY.out.lv)
            clear hbz
            go_wp2
            go_roundw
            case rel => exact ⟨k + 1, p, S, by omega, by go_num, RZ.out, NY.out⟩
            case measure => simp [intOf]; omega
          · have t5 : ((k : Int) % 5 != (s : Int)) = true := by simp; omega
            have HNE := Lib.hid hne; clear hne
            go_wp2_with fail
            refine (CP.out _).mono ?_
            rintro e w4 ⟨rfl, hb4⟩
            have hd4 := RR.out.dk.kept hb4
            have cw := write_any hd4 ((k % 5 : Nat) : Int) (pad (tx k)) (by have := hd4.box.lt; have := hd4.bg; omega) (by have := RR.out.lv.pend; omega)
            have lw := RR.out.lv.write (k % 5) (pad (tx k))
            have nw := now_other S (k % 5) s (pad (tx k)) HNE.out
            rw [NR.out] at nw
            generalize S.write ((k % 5 : Nat) : Int) (pad (tx k)) = Sb at cw lw nw
            obtain ⟨Sx, e'⟩ := Sb
            rw [show ((k % 5 : Nat) : Int) = (k : Int) % 5 by omega] at cw
            have HB4 := Lib.hid (below_then RR.out.bel hb4 RR.out.bel.size)
            have C := Lib.hid cw; have LW := Lib.hid lw; have NX := Lib.hid nw
            clear cw lw nw hb4 hd4
            dsimp only [Ids.ptr, Ids.with] at C NX
            go_wp2_with fail
            refine C.out.mono ?_
            rintro e wx ⟨rfl, px, hd5, ho5⟩
            have RX := Lib.hid (Rd.mk (I := I) (p := px) hd5 (HB4.out.trans (ho5.below HB4.out.size HF.out)) LW.out)
            clear hd5 ho5
            have c9 : wx.cell? ⟨b9, off9 + k, none⟩ = some (.bool false) := by rw [RX.out.bel.cell (p := ⟨b9, off9 + k, none⟩) HB9.out]; exact HC9.out
            have l9 : b9 < wx.heap.size := by have := RX.out.bel.size; have := HB9.out; omega
            have RY := RX; have NY := NX
            have cr := read_any RY.out.dk (s : Int)
            rw [RY.out.lv.read s HS5.out, NY.out] at cr
            have CR := Lib.hid cr; clear cr
            dsimp only [Ids.ptr, Ids.with] at CR
            go_wp2_with fail
            refine CR.out.mono ?_
            rintro e wz ⟨rfl, hw⟩
            subst wz
            go_wp2_with fail
            refine (CM.out _).mono ?_
            rintro e wz ⟨rfl, hbz⟩
            have RZ := Lib.hid (Rd.mk (I := I) (p := px) (RY.out.dk.kept hbz) (below_then RY.out.bel hbz RY.out.bel.size) RY.out.lv)
            clear hbz
            go_wp2
            go_roundw
            case rel => exact ⟨k + 1, px, Sx, by omega, by go_num, RZ.out, NY.out⟩
            case measure => simp [intOf]; omega
        · rw [hkk] at h9
          have HC9 := Lib.hid h9
          clear h9 hcell9 hbB9 hkk
          by_cases hne : k % 5 = s
          · have t5 : ((k : Int) % 5 != (s : Int)) = false := by simp; omega
            clear hne
            have RX := Lib.hid (Rd.mk (I := I) (p := p) RR.out.dk RR.out.bel (RR.out.lv.more (Nat.le_succ _)))
            have NX := NR
            have c9 : wr.cell? ⟨b9, off9 + k, none⟩ = some (.bool true) := by rw [RX.out.bel.cell (p := ⟨b9, off9 + k, none⟩) HB9.out]; exact HC9.out
            have l9 : b9 < wr.heap.size := by have := RX.out.bel.size; have := HB9.out; omega
            obtain ⟨sy0, sy1, _, sy3, _⟩ := RX.out.lv.sync
            have cb := barrier_any RX.out.dk
            rw [sy0] at cb
            have CB := Lib.hid cb; have SY1 := Lib.hid (sy1.more (j := k + 1 + 1) (by omega)); have NY := Lib.hid (show S.synced.now.getD s ⟨#[]⟩ = M from by rw [sy3]; exact NX.out)
            clear cb sy0 sy1 sy3
            dsimp only [Ids.ptr, Ids.with] at CB
            go_wp2_with fail
            refine CB.out.mono ?_
            rintro e wy ⟨rfl, py, hdy, hoy⟩
            have RY := Lib.hid (Rd.mk (I := I) (p := py) hdy (RX.out.bel.trans (hoy.below RX.out.bel.size (fun q hq => Nat.le_trans S1.out (RX.out.dk.foot_lt hq).1))) SY1.out)
            clear hdy hoy
            have cr := read_any RY.out.dk (s : Int)
            rw [RY.out.lv.read s HS5.out, NY.out] at cr
            have CR := Lib.hid cr; clear cr
            dsimp only [Ids.ptr, Ids.with] at CR
            go_wp2_with fail
            refine CR.out.mono ?_
            rintro e wz ⟨rfl, hw⟩
            subst wz
            go_wp2_with fail
            refine (CM.out _).mono ?_
            rintro e wz ⟨rfl, hbz⟩
            have RZ := Lib.hid (Rd.mk (I := I) (p := py) (RY.out.dk.kept hbz) (below_then RY.out.bel hbz RY.out.bel.size) RY.out.lv)
            clear hbz
            go_wp2
            go_roundw
            case rel => exact ⟨k + 1, py, S.synced, by omega, by go_num, RZ.out, NY.out⟩
            case measure => simp [intOf]; omega
          · have t5 : ((k : Int) % 5 != (s : Int)) = true := by simp; omega
            have HNE := Lib.hid hne; clear hne
            go_wp2_with fail
            refine (CP.out _).mono ?_
            rintro e w4 ⟨rfl, hb4⟩
            have hd4 := RR.out.dk.kept hb4
            have cw := write_any hd4 ((k % 5 : Nat) : Int) (pad (tx k)) (by have := hd4.box.lt; have := hd4.bg; omega) (by have := RR.out.lv.pend; omega)
            have lw := RR.out.lv.write (k % 5) (pad (tx k))
            have nw := now_other S (k % 5) s (pad (tx k)) HNE.out
            rw [NR.out] at nw
            generalize S.write ((k % 5 : Nat) : Int) (pad (tx k)) = Sb at cw lw nw
            obtain ⟨Sx, e'⟩ := Sb
            rw [show ((k % 5 : Nat) : Int) = (k : Int) % 5 by omega] at cw
            have HB4 := Lib.hid (below_then RR.out.bel hb4 RR.out.bel.size)
            have C := Lib.hid cw; have LW := Lib.hid lw; have NX := Lib.hid nw
            clear cw lw nw hb4 hd4
            dsimp only [Ids.ptr, Ids.with] at C NX
            go_wp2_with fail
            refine C.out.mono ?_
            rintro e wx ⟨rfl, px, hd5, ho5⟩
            have RX := Lib.hid (Rd.mk (I := I) (p := px) hd5 (HB4.out.trans (ho5.below HB4.out.size HF.out)) LW.out)
            clear hd5 ho5
            have c9 : wx.cell? ⟨b9, off9 + k, none⟩ = some (.bool true) := by rw [RX.out.bel.cell (p := ⟨b9, off9 + k, none⟩) HB9.out]; exact HC9.out
            have l9 : b9 < wx.heap.size := by have := RX.out.bel.size; have := HB9.out; omega
            obtain ⟨sy0, sy1, _, sy3, _⟩ := RX.out.lv.sync
            have cb := barrier_any RX.out.dk
            rw [sy0] at cb
            have CB := Lib.hid cb; have SY1 := Lib.hid (sy1.more (j := k + 1 + 1) (by omega)); have NY := Lib.hid (show Sx.synced.now.getD s ⟨#[]⟩ = M from by rw [sy3]; exact NX.out)
            clear cb sy0 sy1 sy3
            dsimp only [Ids.ptr, Ids.with] at CB
            go_wp2_with fail
            refine CB.out.mono ?_
            rintro e wy ⟨rfl, py, hdy, hoy⟩
            have RY := Lib.hid (Rd.mk (I := I) (p := py) hdy (RX.out.bel.trans (hoy.below RX.out.bel.size (fun q hq => Nat.le_trans S1.out (RX.out.dk.foot_lt hq).1))) SY1.out)
            clear hdy hoy
            have cr := read_any RY.out.dk (s : Int)
            rw [RY.out.lv.read s HS5.out, NY.out] at cr
            have CR := Lib.hid cr; clear cr
            dsimp only [Ids.ptr, Ids.with] at CR
            go_wp2_with fail
            refine CR.out.mono ?_
            rintro e wz ⟨rfl, hw⟩
            subst wz
            go_wp2_with fail
            refine (CM.out _).mono ?_
            rintro e wz ⟨rfl, hbz⟩
            have RZ := Lib.hid (Rd.mk (I := I) (p := py) (RY.out.dk.kept hbz) (below_then RY.out.bel hbz RY.out.bel.size) RY.out.lv)
            clear hbz
            go_wp2
            go_roundw
            case rel => exact ⟨k + 1, py, Sx.synced, by omega, by go_num, RZ.out, NY.out⟩
            case measure => simp [intOf]; omega
      · by_cases hne : k % 5 = s
        · have t5 : ((k : Int) % 5 != (s : Int)) = false := by simp; omega
          clear hne
          have RX := Lib.hid (Rd.mk (I := I) (p := p) RR.out.dk RR.out.bel (RR.out.lv.more (Nat.le_succ _)))
          have NX := NR
          have RY := RX; have NY := NX
          have cr := read_any RY.out.dk (s : Int)
          rw [RY.out.lv.read s HS5.out, NY.out] at cr
          have CR := Lib.hid cr; clear cr
          dsimp only [Ids.ptr, Ids.with] at CR
          go_wp2_with fail
          refine CR.out.mono ?_
          rintro e wz ⟨rfl, hw⟩
          subst wz
          go_wp2_with fail
          refine (CM.out _).mono ?_
          rintro e wz ⟨rfl, hbz⟩
          have RZ := Lib.hid (Rd.mk (I := I) (p := p) (RY.out.dk.kept hbz) (below_then RY.out.bel hbz RY.out.bel.size) RY.out.lv)
          clear hbz
          go_wp2
          go_roundw
          case rel => exact ⟨k + 1, p, S, by omega, by go_num, RZ.out, NY.out⟩
          case measure => simp [intOf]; omega
        · have t5 : ((k : Int) % 5 != (s : Int)) = true := by simp; omega
          have HNE := Lib.hid hne; clear hne
          go_wp2_with fail
          refine (CP.out _).mono ?_
          rintro e w4 ⟨rfl, hb4⟩
          have hd4 := RR.out.dk.kept hb4
          have cw := write_any hd4 ((k % 5 : Nat) : Int) (pad (tx k)) (by have := hd4.box.lt; have := hd4.bg; omega) (by have := RR.out.lv.pend; omega)
          have lw := RR.out.lv.write (k % 5) (pad (tx k))
          have nw := now_other S (k % 5) s (pad (tx k)) HNE.out
          rw [NR.out] at nw
          generalize S.write ((k % 5 : Nat) : Int) (pad (tx k)) = Sb at cw lw nw
          obtain ⟨Sx, e'⟩ := Sb
          rw [show ((k % 5 : Nat) : Int) = (k : Int) % 5 by omega] at cw
          have HB4 := Lib.hid (below_then RR.out.bel hb4 RR.out.bel.size)
          have C := Lib.hid cw; have LW := Lib.hid lw; have NX := Lib.hid nw
          clear cw lw nw hb4 hd4
          dsimp only [Ids.ptr, Ids.with] at C NX
          go_wp2_with fail
          refine C.out.mono ?_
          rintro e wx ⟨rfl, px, hd5, ho5⟩
          have RX := Lib.hid (Rd.mk (I := I) (p := px) hd5 (HB4.out.trans (ho5.below HB4.out.size HF.out)) LW.out)
          clear hd5 ho5
          have RY := RX; have NY := NX
          have cr := read_any RY.out.dk (s : Int)
          rw [RY.out.lv.read s HS5.out, NY.out] at cr
          have CR := Lib.hid cr; clear cr
          dsimp only [Ids.ptr, Ids.with] at CR
          go_wp2_with fail
          refine CR.out.mono ?_
          rintro e wz ⟨rfl, hw⟩
          subst wz
          go_wp2_with fail
          refine (CM.out _).mono ?_
          rintro e wz ⟨rfl, hbz⟩
          have RZ := Lib.hid (Rd.mk (I := I) (p := px) (RY.out.dk.kept hbz) (below_then RY.out.bel hbz RY.out.bel.size) RY.out.lv)
          clear hbz
          go_wp2
          go_roundw
          case rel => exact ⟨k + 1, px, Sx, by omega, by go_num, RZ.out, NY.out⟩
          case measure => simp [intOf]; omega
    · obtain rfl : k = m := by omega
      have cr := read_any RR.out.dk (s : Int)
      rw [RR.out.lv.read s HS5.out, NR.out] at cr
      have CR := Lib.hid cr; clear cr
      dsimp only [Ids.ptr, Ids.with] at CR
      go_wp2_with fail
      refine CR.out.mono ?_
      rintro e wz ⟨rfl, hw⟩
      subst wz
      go_wp2_with fail
      refine (CM.out _).mono ?_
      rintro e wz ⟨rfl, hbz⟩
      have HBZ := Lib.hid (below_then RR.out.bel hbz RR.out.bel.size)
      clear hbz
      go_wp2
      go_ret
      exact ⟨rfl, HBZ.out⟩

set_option maxHeartbeats 2000000 in
theorem last_big (wv bv : Value) (sector : Int) (mine : ByteArray) (m bc ac ac9 : Nat) (a a9 : Option Addr) (w : World) (hm : wv = .slice a m ac) (hb : bv = .slice a9 bc ac9) (hmine : 60 < mine.size) :
    Calls Try.prog 6 #[.agg #[wv, .int .i64 sector, .string mine, bv]] w fun e w' => e = .returned (.bool true) ∧ Below w.heap.size w w' := by
  subst hm hb
  have CN := Lib.hid (fun w => new_good 5 w (by omega) (by omega))
  go_enter Try.func6, Try.ntmps6
  have gx := Bk.new w 55 #[.slice a m ac, .int .i64 sector, .string mine, .slice a9 bc ac9]
  have x0 := gx.cell 0; have x1 := gx.cell 1; have x2 := gx.cell 2; have x3 := gx.cell 3
  simp only [List.getElem?_toArray, List.getElem?_cons_zero, List.getElem?_cons_succ] at x0 x1 x2 x3
  clear gx
  go_wp2_with fail
  go_quiet (fail)
  go_wp2_with fail
  refine (awake_any _).mono ?_
  rintro e w1 ⟨rfl, hb1⟩
  have hB1 : Below w.heap.size w w1 := below_then (below_drewN ((Below.refl _ _).alloc (Nat.le_refl _) _) _) hb1 (by simp)
  clear x0 x1 x2 x3 hb1
  go_wp2_with fail
  refine (CN.out w1).mono ?_
  rintro e w2 ⟨I, rfl, hd2, hb2⟩
  have HB2 := Lib.hid (below_then hB1 hb2 hB1.size); clear hB1 hb2 hd2
  unfold Ids.ptr
  go_wp2
  go_ret
  exact ⟨rfl, HB2.out⟩

theorem walk_DiskLast (v : Value) (x : Lst) (w : World) (h : IsLast w v x) (hs : x.wq.cap * 16 ≤ 140737488351232) :
    Calls Try.prog 6 #[v] w fun e w' => e = .returned (.bool true) ∧ Below w.heap.size w w' := by
  obtain ⟨rfl, ⟨h1, tx, htx⟩, ⟨h2, kb, hkb⟩, lo, hi, hmn⟩ := h
  have hle := h1.le
  by_cases hsz : x.mine.size ≤ 60
  · exact last_core x.wv x.bv x.sector x.mine x.wq.len x.bq.len tx kb w (Sq.of h1 fun i hi => (htx i hi).1) (by omega) (fun i hi => (htx i hi).2) (Sq.of h2 hkb) hsz lo hi
  · exact last_big x.wv x.bv x.sector x.mine _ _ _ _ _ _ w h1.val h2.val (by omega)
end Go.Proofs.Ytlbpbegnknpckaa
