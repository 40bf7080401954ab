/- The walk of DiskApart. -/
import Derived.Test.YtlbpbegnknpckaaDskLaws3
set_option linter.unusedVariables false
set_option linter.unusedSimpArgs false
namespace Go.Proofs.Ytlbpbegnknpckaa
open Go.RowKit

/-- Two devices that share no block: the second has no pending writes. -/
theorem Dk.apart {w : World} {B B' : Nat} {I J : Ids} {S T : Dsk} (h : Dk w B I S) (k : Dk w B' J T) (hp : J.p = .slice none 0 0) (hg : I.g ≠ J.g) (h1 : I.f ≠ J.f) (h2 : I.f ≠ J.n) (h3 : I.n ≠ J.f) (h4 : I.n ≠ J.n) : ∀ q, J.foot q → ¬ I.foot q := by
  intro q hq hi
  rcases hq with rfl | rfl | rfl | hq
  · rcases hi with e | e | e | e
    · exact hg e.symm
    · exact h.firm.ne_bk k.box (by decide) e.symm
    · exact h.now.ne_bk k.box (by decide) e.symm
    · obtain ⟨_, _, cur, hc⟩ := owns_block h.pend e
      exact hc.ne_ k.box (by decide) rfl
  · rcases hi with e | e | e | e
    · exact k.firm.ne_bk h.box (by decide) e
    · exact h1 e.symm
    · exact h3 e.symm
    · obtain ⟨_, _, cur, hc⟩ := owns_block h.pend e
      exact k.firm.ne_bk hc (by decide) rfl
  · rcases hi with e | e | e | e
    · exact k.now.ne_bk h.box (by decide) e
    · exact h2 e.symm
    · exact h4 e.symm
    · obtain ⟨_, _, cur, hc⟩ := owns_block h.pend e
      exact k.now.ne_bk hc (by decide) rfl
  · rw [hp] at hq; simp [Value.ownBlock] at hq

set_option maxHeartbeats 4000000 in
theorem apart_core (v u : Value) (m c : Nat) (tx : Nat → ByteArray) (kb : Nat → Bool) (w : World) (ht : Sq w w.heap.size v m (fun i => .string (tx i))) (hm : m ≤ 8796093022207) (hsz : ∀ i, i < m → (tx i).size ≤ maxLen) (hk : Kp w w.heap.size u c kb) :
    Calls Try.prog 9 #[v, u] w fun e w' => e = .returned (.bool true) ∧ Below w.heap.size w w' := by
  have ca := awake_any w
  have cn := fun w => new_good 3 w (by omega) (by omega)
  have cmine := fun w => padded_any (⟨#[109, 105, 110, 101]⟩ : ByteArray) w (by decide)
  have zmine : (pad (⟨#[109, 105, 110, 101]⟩ : ByteArray)).size = 64 := by
    unfold pad
    rw [if_neg (by decide), ByteArray.size_append, Fr.zs_size]
    rfl
  generalize pad (⟨#[109, 105, 110, 101]⟩ : ByteArray) = mine at *
  have CA := Lib.hid ca; have CN := Lib.hid cn; have HSZ := Lib.hid hsz; have HK := Lib.hid hk; have CM := Lib.hid cmine; have ZM := Lib.hid zmine
  clear ca cn hsz hk cmine zmine
  obtain ⟨a, ac, rfl, ht⟩ := ht
  have HT := Lib.hid ht; clear ht
  go_enter Try.func9, Try.ntmps9
  go_wp2_with fail
  refine CA.out.mono ?_
  rintro e w1 ⟨rfl, hb1⟩
  go_wp2_with fail
  refine (CN.out w1).mono ?_
  rintro e w2 ⟨I, rfl, hd2, hb2⟩
  have R0 := Lib.hid (Rd.mk (I := I) (p := I.p) hd2 (below_then hb1 hb2 hb1.size) (Lv.start 3 (blanks 3) (by simp [blanks])))
  have S1 := Lib.hid hb1.size
  clear hb1 hb2 hd2
  unfold Ids.ptr
  go_wp2
  go_loopw [34] (fun i wr => ∃ (k : Nat) (p : Value) (S : Dsk), k ≤ m ∧ i = .int .i64 k ∧ Rd w wr w1.heap.size I p S 3 k) (fun i _ => m - (intOf i).toNat)
  case atStart => exact ⟨0, _, _, Nat.zero_le _, rfl, R0.out⟩
  case round =>
    obtain ⟨k, p, S, hk, rfl, R⟩ := hrel
    have hfr : ∀ j, (I.with p).foot j → w.heap.size ≤ j := fun j hj => Nat.le_trans S1.out (R.dk.foot_lt hj).1
    by_cases hlt : k < m
    · obtain ⟨b, off, rfl, hbB, hcell⟩ := HT.out (by omega)
      have q0 : wr.cell? ⟨b, off + k, none⟩ = some (.string (tx k)) := by rw [R.bel.cell (p := ⟨b, off + k, none⟩) hbB]; exact hcell k hlt
      have cp := fun w => padded_any (tx k) w (HSZ.out k hlt)
      have CP := Lib.hid cp; have RR := Lib.hid R; have HF := Lib.hid hfr
      clear cp R hfr hcell
      go_wp2_with fail
      refine (CP.out _).mono ?_
      rintro e w4 ⟨rfl, hb4⟩
      have hd4 := RR.out.dk.kept hb4
      have cw := write_any hd4 ((k % 3 : Nat) : Int) (pad (tx k)) (by have := hd4.box.lt; have := hd4.bg; omega) (by have := RR.out.lv.pend; omega)
      have lw := RR.out.lv.write (k % 3) (pad (tx k))
      generalize S.write ((k % 3 : Nat) : Int) (pad (tx k)) = Sb at cw lw
      obtain ⟨S', e'⟩ := Sb
      rw [show ((k % 3 : Nat) : Int) = (k : Int) % 3 by omega] at cw
      have HB4 := Lib.hid (below_then RR.out.bel hb4 RR.out.bel.size)
      have C := Lib.hid cw; have LW := Lib.hid lw
      clear cw lw hb4 hd4
      unfold Ids.ptr Ids.with at C
      go_wp2_with fail
      refine C.out.mono ?_
      rintro e w5 ⟨rfl, p5, hd5, ho5⟩
      have R5 := Lib.hid (Rd.mk (I := I) hd5 (HB4.out.trans (ho5.below HB4.out.size HF.out)) LW.out)
      clear hd5 ho5
      go_wp2
      go_roundw
      case rel => exact ⟨k + 1, p5, S', by omega, by go_num, R5.out⟩
      case measure => simp [intOf]; omega
    · obtain rfl : k = m := by omega
      have hk1 := (HK.out.kept R.bel (Nat.le_refl _)).mono S1.out
      have cc := crash_any R.dk u c kb hk1
      have CC := Lib.hid cc; have RR := Lib.hid R; have HF := Lib.hid hfr
      clear cc R hfr hk1
      dsimp only [Ids.ptr, Ids.with] at CC
      go_wp2_with fail
      refine CC.out.mono ?_
      rintro e w5 ⟨J, rfl, hd5, hj5, ho5, hjp⟩
      have hb5 := RR.out.bel.trans (ho5.below RR.out.bel.size HF.out)
      have cc := crash_any hd5 u c kb ((HK.out.kept hb5 (Nat.le_refl _)).mono S1.out)
      have hfr5 : ∀ j, (I.with p).foot j → w.heap.size ≤ j ∧ j < wr.heap.size := fun j hj => ⟨Nat.le_trans S1.out (RR.out.dk.foot_lt hj).1, (RR.out.dk.foot_lt hj).2⟩
      have HD5 := Lib.hid hd5; have HJ5 := Lib.hid hj5; have HB5 := Lib.hid hb5; have CC := Lib.hid cc; have HJP := Lib.hid hjp; have HF5 := Lib.hid hfr5
      clear hd5 hj5 ho5 hb5 cc hjp hfr5 HF
      dsimp only [Ids.ptr, Ids.with] at CC
      go_wp2_with fail
      refine CC.out.mono ?_
      rintro e w6 ⟨K, rfl, hd6, hk6, ho6, hkp⟩
      have hj6 := HJ5.out.out ho6 (fun q hq hx => by have := (HJ5.out.foot_lt hq).1; have := (HF5.out q hx).2; omega)
      have hb6 := HB5.out.trans (ho6.below HB5.out.size (fun q hq => (HF5.out q hq).1))
      have lenS : (S.crash c kb).firm.length = 3 := by show (keepTo _ _ _ _ _).length = 3; rw [keepTo_length]; exact RR.out.lv.len
      have lj : Lv (S.crash c kb) 3 0 := Lv.start 3 _ lenS
      have HD6 := Lib.hid hd6; have HJ6 := Lib.hid hj6; have HK6 := Lib.hid hk6; have HB6 := Lib.hid hb6; have LJ := Lib.hid lj; have HKP := Lib.hid hkp
      have FJ := Lib.hid (fun q hq => (HJ5.out.foot_lt (k := q) hq).2)
      have S5 := Lib.hid (show wr.heap.size ≤ w5.heap.size from by have := HJ5.out.box.lt; have := HJ5.out.bg; omega)
      have hk6' : Dk w6 w5.heap.size K (S.crash c kb) := hk6
      have HK6 := Lib.hid hk6'
      clear hd6 hj6 hk6 hk6' ho6 hb6 lj hkp HD5 HJ5 HB5 lenS CC
      generalize S.crash c kb = T at *
      go_wp2
      go_loopw [52] (fun i ws => ∃ j : Nat, j ≤ 3 ∧ i = .int .i64 j ∧ ws = w6) (fun i _ => 3 - (intOf i).toNat)
      case atStart => exact ⟨0, by omega, rfl, rfl⟩
      case round =>
        obtain ⟨j, hj, rfl, rfl⟩ := hrel
        by_cases hj3 : j < 3
        · have r1 := read_any HJ6.out j
          have r2 := read_any HK6.out j
          rw [LJ.out.read j hj3] at r1 r2
          have R1 := Lib.hid r1; have R2 := Lib.hid r2
          clear r1 r2
          dsimp only [Ids.ptr] at R1 R2
          go_wp2_with fail
          refine R1.out.mono ?_
          rintro e w8 ⟨rfl, hw⟩
          subst w8
          go_wp2_with fail
          refine R2.out.mono ?_
          rintro e w8 ⟨rfl, hw⟩
          subst w8
          go_wp2
          go_roundw
          case rel => exact ⟨j + 1, by omega, by go_num, trivial⟩
          case measure => simp [intOf]; omega
        · obtain rfl : j = 3 := by omega
          clear hj hj3
          have r2 := read_any HK6.out ((0 : Nat) : Int)
          rw [LJ.out.read 0 (by omega)] at r2
          rw [show ((0 : Nat) : Int) = 0 from rfl] at r2
          have R2 := Lib.hid r2; clear r2
          dsimp only [Ids.ptr] at R2
          go_wp2_with fail
          refine R2.out.mono ?_
          rintro e w7 ⟨rfl, hw⟩
          subst w7
          go_wp2_with fail
          refine (CM.out _).mono ?_
          rintro e w7 ⟨rfl, hb7⟩
          have hj7 := HJ6.out.kept hb7
          have hk7 := HK6.out.kept hb7
          have hd7 := HD6.out.kept hb7
          have HB7 := Lib.hid (below_then HB6.out hb7 HB6.out.size)
          have cw := write_any hj7 ((0 : Nat) : Int) mine (by have := hj7.box.lt; have := hj7.bg; omega) (by have := LJ.out.pend; omega)
          rw [LJ.out.write_e 0 mine (by omega) ZM.out] at cw
          rw [show ((0 : Nat) : Int) = 0 from rfl] at cw
          have CW := Lib.hid cw; have HJ7 := Lib.hid hj7; have HK7 := Lib.hid hk7; have HD7 := Lib.hid hd7
          clear cw hj7 hk7 hd7 hb7
          dsimp only [Ids.ptr] at CW
          go_wp2_with fail
          refine CW.out.mono ?_
          rintro e w8 ⟨rfl, p8, hj8, ho8⟩
          have hk8 := HK7.out.out ho8 (fun q hq hx => by have := (HK7.out.foot_lt hq).1; have := FJ.out q hx; omega)
          have hd8 := HD7.out.out ho8 (fun q hq hx => by have := (HF5.out q hq).2; have := (HJ7.out.foot_lt hx).1; omega)
          have hb8 := HB7.out.trans (ho8.below HB7.out.size (fun q hq => by have := (HJ7.out.foot_lt hq).1; have := RR.out.bel.size; omega))
          have lw := LJ.out.wrote 0 mine
          obtain ⟨sy0, sy1, sy2, sy3, sy4⟩ := lw.sync
          have cb := barrier_any hj8
          rw [sy0] at cb
          have HJ8 := Lib.hid hj8; have HK8 := Lib.hid hk8; have HD8 := Lib.hid hd8; have HB8 := Lib.hid hb8; have CB := Lib.hid cb; have SY1 := Lib.hid sy1; have SY3 := Lib.hid sy3
          clear hj8 hk8 hd8 hb8 cb lw sy0 sy1 sy2 sy3 sy4 ho8
          dsimp only [Ids.ptr, Ids.with] at CB
          go_wp2_with fail
          refine CB.out.mono ?_
          rintro e w9 ⟨rfl, p9, hj9, ho9⟩
          have hap := HJ8.out.apart HK8.out HKP.out (by have := FJ.out J.g (.inl rfl); have := HK6.out.bg; show J.g ≠ K.g; omega) (by have := FJ.out J.f (.inr (.inl rfl)); have := HK6.out.bf; show J.f ≠ K.f; omega) (by have := FJ.out J.f (.inr (.inl rfl)); have := HK6.out.bn; show J.f ≠ K.n; omega) (by have := FJ.out J.n (.inr (.inr (.inl rfl))); have := HK6.out.bf; show J.n ≠ K.f; omega) (by have := FJ.out J.n (.inr (.inr (.inl rfl))); have := HK6.out.bn; show J.n ≠ K.n; omega)
          have hk9 := HK8.out.out ho9 hap
          have hd9 := HD8.out.out ho9 (fun q hq hx => by have := (HF5.out q hq).2; have := (HJ8.out.foot_lt hx).1; omega)
          have hb9 := HB8.out.trans (ho9.below HB8.out.size (fun q hq => by have := (HJ8.out.foot_lt hq).1; have := RR.out.bel.size; omega))
          have r1 := read_any hj9 ((0 : Nat) : Int)
          rw [SY1.out.read 0 (by omega), SY3.out] at r1
          rw [show (T.wrote 0 mine).now.getD 0 ⟨#[]⟩ = mine from by
            show (T.now.set 0 mine).getD 0 ⟨#[]⟩ = mine
            have hl : 0 < T.now.length := by rw [LJ.out.now, apply_length, LJ.out.len]; omega
            rw [List.getD_eq_getElem?_getD, List.getElem?_set, if_pos rfl, if_pos hl]; rfl] at r1
          have r2 := read_any hk9 ((0 : Nat) : Int)
          rw [LJ.out.read 0 (by omega)] at r2
          have r3 := read_any hd9 ((0 : Nat) : Int)
          rw [down_read] at r3
          rw [show ((0 : Nat) : Int) = 0 from rfl] at r1 r2 r3
          have R1 := Lib.hid r1; have R2 := Lib.hid r2; have R3 := Lib.hid r3; have HB9 := Lib.hid hb9
          clear r1 r2 r3 hj9 hk9 hd9 hb9 ho9 hap
          dsimp only [Ids.ptr, Ids.with] at R1 R2 R3
          go_wp2_with fail
          refine R1.out.mono ?_
          rintro e w10 ⟨rfl, hw⟩
          subst w10
          go_wp2_with fail
          refine R2.out.mono ?_
          rintro e w10 ⟨rfl, hw⟩
          subst w10
          go_wp2_with fail
          refine R3.out.mono ?_
          rintro e w10 ⟨rfl, hw⟩
          subst w10
          go_wp2_with fail
          refine (CM.out _).mono ?_
          rintro e w10 ⟨rfl, hb10⟩
          have HB10 := Lib.hid (below_then HB9.out hb10 HB9.out.size); clear hb10
          go_wp2
          go_ret
          exact ⟨rfl, HB10.out⟩

theorem walk_DiskApart (v : Value) (a0 : Slq) (u : Value) (a1 : Slq) (w : World) (h0 : IsTx w v a0) (s0 : a0.cap * 16 ≤ 140737488351232) (h1 : IsBs w u a1) :
    Calls Try.prog 9 #[v, u] w fun e w' => e = .returned (.bool true) ∧ Below w.heap.size w w' := by
  obtain ⟨hs, tx, htx⟩ := h0
  obtain ⟨ks, kb, hkb⟩ := h1
  exact apart_core v u a0.len a1.len tx kb w (Sq.of hs fun i hi => (htx i hi).1) (by have := hs.le; omega) (fun i hi => (htx i hi).2) (Kp.of (Sq.of ks hkb))
end Go.Proofs.Ytlbpbegnknpckaa
