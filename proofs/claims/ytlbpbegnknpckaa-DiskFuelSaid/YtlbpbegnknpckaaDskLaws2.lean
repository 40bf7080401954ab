/- The walk of DiskFuel. -/
import Derived.Test.YtlbpbegnknpckaaDskRead
set_option linter.unusedVariables false
set_option linter.unusedSimpArgs false
namespace Go.Proofs.Ytlbpbegnknpckaa
open Go.RowKit

/-- What a write or a barrier does to the fuel. -/
structure Stepped (S S' : Dsk) (e : Int) : Prop where
  len : S'.firm.length = S.firm.length
  pend : S'.pend.length ≤ S.pend.length + 1
  good : S.down = false → S.fuel ≠ 0 → e = 0 ∧ S'.down = false ∧ S'.fuel = S.burnt.fuel
  out : S.down = false → S.fuel = 0 → e = 20 ∧ S'.down = true
  dn : S.down = true → e = 20 ∧ S'.down = true
theorem stepped_write (S : Dsk) (k : Nat) (d : ByteArray) (hk : k < S.firm.length) (h64 : d.size = 64) : Stepped S (S.write k d).1 (S.write k d).2 := by
  unfold Dsk.write
  rcases hd : S.down with _ | _
  · rw [if_neg (by simp), if_pos ⟨by omega, by omega, h64⟩]
    by_cases hf : S.fuel = 0
    · rw [if_pos hf]
      exact ⟨rfl, by simp, fun _ h => absurd hf h, fun _ _ => ⟨rfl, rfl⟩, fun h => by simp [hd] at h⟩
    · rw [if_neg hf]
      exact ⟨rfl, by simp [Dsk.wrote], fun _ _ => ⟨rfl, hd, rfl⟩, fun _ h => absurd h hf, fun h => by simp [hd] at h⟩
  · rw [if_pos rfl]
    exact ⟨rfl, by simp, fun h => by simp [hd] at h, fun h => by simp [hd] at h, fun _ => ⟨rfl, hd⟩⟩
theorem stepped_barrier (S : Dsk) : Stepped S S.barrier.1 S.barrier.2 := by
  unfold Dsk.barrier
  rcases hd : S.down with _ | _
  · rw [if_neg (by simp)]
    by_cases hf : S.fuel = 0
    · rw [if_pos hf]
      exact ⟨rfl, by simp, fun _ h => absurd hf h, fun _ _ => ⟨rfl, rfl⟩, fun h => by simp [hd] at h⟩
    · rw [if_neg hf]
      exact ⟨apply_length _ _, by simp [Dsk.synced], fun _ _ => ⟨rfl, hd, rfl⟩, fun _ h => absurd h hf, fun h => by simp [hd] at h⟩
  · rw [if_pos rfl]
    exact ⟨rfl, by simp, fun h => by simp [hd] at h, fun h => by simp [hd] at h, fun _ => ⟨rfl, hd⟩⟩

/-- So far k were tried, n of them succeeded. -/
def FI (F : Int) (k n : Nat) (S : Dsk) : Prop :=
  S.firm.length = 2 ∧ S.pend.length ≤ k ∧ ((F < 0 ∧ S.down = false ∧ S.fuel = -1 ∧ n = k) ∨ (0 ≤ F ∧ (k : Int) ≤ F ∧ S.down = false ∧ S.fuel = F - k ∧ n = k) ∨ (0 ≤ F ∧ F < k ∧ S.down = true ∧ (n : Int) = F))
theorem FI.step {F : Int} {k n : Nat} {S S' : Dsk} {e : Int} (h : FI F k n S) (hs : Stepped S S' e) : (e = 0 ∧ FI F (k + 1) (n + 1) S') ∨ (e = 20 ∧ FI F (k + 1) n S') := by
  obtain ⟨h1, h2, h3⟩ := h
  have hl := hs.len; have hp := hs.pend
  rcases h3 with ⟨a, b, c, d⟩ | ⟨a, b, c, d, f⟩ | ⟨a, b, c, d⟩
  · obtain ⟨e0, e1, e2⟩ := hs.good b (by omega)
    refine .inl ⟨e0, by omega, by omega, .inl ⟨a, e1, ?_, by omega⟩⟩
    rw [e2]; unfold Dsk.burnt; simp only; rw [if_neg (by omega)]; exact c
  · by_cases hz : S.fuel = 0
    · obtain ⟨e0, e1⟩ := hs.out c hz
      exact .inr ⟨e0, by omega, by omega, .inr (.inr ⟨a, by omega, e1, by omega⟩)⟩
    · obtain ⟨e0, e1, e2⟩ := hs.good c hz
      refine .inl ⟨e0, by omega, by omega, .inr (.inl ⟨a, by omega, e1, ?_, by omega⟩)⟩
      rw [e2]; unfold Dsk.burnt; simp only; rw [if_pos (by omega)]; omega
  · obtain ⟨e0, e1⟩ := hs.dn c
    exact .inr ⟨e0, by omega, by omega, .inr (.inr ⟨a, by omega, e1, d⟩)⟩

theorem pad_small (s : ByteArray) (h : s.size ≤ 62) : (pad s).size = 64 := by
  unfold pad
  rw [if_neg (by omega), ByteArray.size_append, Fr.zs_size]
  omega

set_option maxHeartbeats 4000000 in
theorem fuel_core (F tries : Int) (w : World) (h0 : -9223372036854775808 ≤ F) (h1 : F ≤ 9223372036854775807) (t0 : -9223372036854775808 ≤ tries) (t1 : tries ≤ 300) :
    Calls Try.prog 8 #[.int .i64 F, .int .i64 tries] w fun e w' => e = .returned (.bool true) ∧ Below w.heap.size w w' := by
  have ca := awake_any w
  have cn := fun w => new_good 2 w (by omega) (by omega)
  have cp := fun w => padded_any (⟨#[97]⟩ : ByteArray) w (by decide)
  have cq := fun w => padded_any (⟨#[98]⟩ : ByteArray) w (by decide)
  have za : (pad (⟨#[97]⟩ : ByteArray)).size = 64 := pad_small _ (by decide)
  generalize pad (⟨#[97]⟩ : ByteArray) = da at *
  generalize pad (⟨#[98]⟩ : ByteArray) = db at *
  have bl : (Dsk.start (blanks 2)).firm.length = 2 := by simp [Dsk.start, blanks]
  have CA := Lib.hid ca; have CN := Lib.hid cn; have CP := Lib.hid cp; have CQ := Lib.hid cq; have ZA := Lib.hid za; have BL := Lib.hid bl
  clear ca cn cp cq za bl
  go_enter Try.func8, Try.ntmps8
  go_wp2_with fail
  refine CA.out.mono ?_
  rintro e w1 ⟨rfl, hb1⟩
  go_wp2_with fail
  refine (CN.out w1).mono ?_
  rintro e w2 ⟨I, rfl, hd2, hb2⟩
  have hb2' := below_then hb1 hb2 hb1.size
  have cf := fuel_any hd2 F h1
  have F2 := Lib.hid (fun k hk => Nat.le_trans hb1.size (hd2.foot_lt (k := k) hk).1)
  have HB2 := Lib.hid hb2'; have CF := Lib.hid cf; have S1 := Lib.hid hb1.size
  clear hb1 hb2 hb2' hd2 cf
  unfold Ids.ptr at CF ⊢
  go_wp2_with fail
  refine CF.out.mono ?_
  rintro e w3 ⟨rfl, hd3, ho3⟩
  have hb3 : Below w.heap.size w w3 := HB2.out.trans (ho3.below HB2.out.size F2.out)
  have fi : FI F 0 0 { Dsk.start (blanks 2) with fuel := if F < 0 then -1 else F } := by
    refine ⟨BL.out, by simp [Dsk.start], ?_⟩
    by_cases hF : F < 0
    · exact .inl ⟨hF, rfl, by simp [hF], rfl⟩
    · exact .inr (.inl ⟨by omega, by omega, rfl, by simp [hF], rfl⟩)
  have HD3 := Lib.hid hd3; have HB3 := Lib.hid hb3; have HFI := Lib.hid fi
  clear hd3 ho3 hb3 fi
  go_wp2
  go_loopw [7, 8] (fun c i wr => ∃ (k n : Nat) (p : Value) (S : Dsk), ((k : Int) ≤ tries ∨ k = 0) ∧ i = .int .i64 k ∧ c = .int .i64 n ∧ n ≤ k ∧ Dk wr w1.heap.size (I.with p) S ∧ Below w.heap.size w wr ∧ FI F k n S) (fun c i _ => tries.toNat - (intOf i).toNat)
  case atStart => exact ⟨0, 0, I.p, _, .inr rfl, rfl, rfl, Nat.le_refl _, HD3.out, HB3.out, HFI.out⟩
  case round =>
    obtain ⟨k, n, p, S, hk, rfl, rfl, hnk, hd, hb, fi⟩ := hrel
    have hfr : ∀ j, (I.with p).foot j → w.heap.size ≤ j := fun j hj => Nat.le_trans S1.out (hd.foot_lt hj).1
    by_cases hlt : (k : Int) < tries
    · have hl := fi.1
      have hpd := fi.2.1
      by_cases hm : (k : Int) % 3 = 2
      · have hm' : ((k : Int) % 3 == 2) = true := by simp [hm]
        have c := barrier_any hd
        have st := fi.step (stepped_barrier S)
        generalize S.barrier = Sb at c st
        obtain ⟨S', e'⟩ := Sb
        have C := Lib.hid c; have ST := Lib.hid st; have HB := Lib.hid hb; have HF := Lib.hid hfr
        clear c st hd hb fi hfr hm
        unfold Ids.ptr Ids.with at C
        go_wp2_with fail
        refine C.out.mono ?_
        rintro e w4 ⟨rfl, p4, hd4, ho4⟩
        have hb4 := HB.out.trans (ho4.below HB.out.size HF.out)
        have HD4 := Lib.hid hd4; have HB4 := Lib.hid hb4; clear hd4 ho4 hb4
        rcases ST.out with ⟨rfl, fi'⟩ | ⟨rfl, fi'⟩
        · have FI' := Lib.hid fi'; clear fi' ST
          go_wp2
          go_roundw
          case rel => exact ⟨k + 1, n + 1, p4, S', .inl (by omega), by go_num, by go_num, by omega, HD4.out, HB4.out, FI'.out⟩
          case measure => simp [intOf]; omega
        · have FI' := Lib.hid fi'; clear fi' ST
          go_wp2
          go_roundw
          case rel => exact ⟨k + 1, n, p4, S', .inl (by omega), by go_num, by go_num, by omega, HD4.out, HB4.out, FI'.out⟩
          case measure => simp [intOf]; omega
      · have hm' : ((k : Int) % 3 == 2) = false := by simp [hm]
        have HD := Lib.hid hd; have HB := Lib.hid hb; have HF := Lib.hid hfr; have HFI2 := Lib.hid fi
        clear hd hb fi hfr hm
        go_wp2_with fail
        refine (CP.out _).mono ?_
        rintro e w4 ⟨rfl, hb4⟩
        have c := write_any (HD.out.kept hb4) ((k % 2 : Nat) : Int) da (by have := HB.out.size; have := hb4.size; have := (HD.out.box.lt); have := HD.out.bg; omega) (by omega)
        have st := HFI2.out.step (stepped_write S (k % 2) da (by omega) ZA.out)
        generalize S.write ((k % 2 : Nat) : Int) da = Sb at c st
        obtain ⟨S', e'⟩ := Sb
        rw [show ((k % 2 : Nat) : Int) = (k : Int) % 2 by omega] at c
        have HB4 := Lib.hid (below_then HB.out hb4 HB.out.size)
        have C := Lib.hid c; have ST := Lib.hid st
        clear c st hb4
        unfold Ids.ptr Ids.with at C
        go_wp2_with fail
        refine C.out.mono ?_
        rintro e w5 ⟨rfl, p4, hd5, ho5⟩
        have hb5 := HB4.out.trans (ho5.below HB4.out.size HF.out)
        have HD5 := Lib.hid hd5; have HB5 := Lib.hid hb5; clear hd5 ho5 hb5
        rcases ST.out with ⟨rfl, fi'⟩ | ⟨rfl, fi'⟩
        · have FI' := Lib.hid fi'; clear fi' ST
          go_wp2
          go_roundw
          case rel => exact ⟨k + 1, n + 1, p4, S', .inl (by omega), by go_num, by go_num, by omega, HD5.out, HB5.out, FI'.out⟩
          case measure => simp [intOf]; omega
        · have FI' := Lib.hid fi'; clear fi' ST
          go_wp2
          go_roundw
          case rel => exact ⟨k + 1, n, p4, S', .inl (by omega), by go_num, by go_num, by omega, HD5.out, HB5.out, FI'.out⟩
          case measure => simp [intOf]; omega
    · have hmax : max tries 0 = (k : Int) := by omega
      have cf := fuel_any hd 9 (by omega)
      rcases fi.2.2 with ⟨a, b, c, d⟩ | ⟨a, a2, b, c, d⟩ | ⟨a, a2, b, d⟩
      · have hn : ((n : Int) == (k : Int)) = true := by simp [d]
        have CF := Lib.hid cf; have HB := Lib.hid hb; have HF := Lib.hid hfr
        clear cf hd hb fi hfr b c d
        unfold Ids.ptr Ids.with at CF
        go_wp2_with fail
        refine CF.out.mono ?_
        rintro e w4 ⟨rfl, hd4, ho4⟩
        have HB4 := Lib.hid (HB.out.trans (ho4.below HB.out.size HF.out)); clear hd4 ho4
        go_wp2
        go_ret
        exact ⟨rfl, HB4.out⟩
      · have hn : ((n : Int) == (k : Int)) = true := by simp [d]
        have hmin : min (k : Int) F = (k : Int) := by omega
        have CF := Lib.hid cf; have HB := Lib.hid hb; have HF := Lib.hid hfr
        clear cf hd hb fi hfr b c d
        unfold Ids.ptr Ids.with at CF
        go_wp2_with fail
        refine CF.out.mono ?_
        rintro e w4 ⟨rfl, hd4, ho4⟩
        have HB4 := Lib.hid (HB.out.trans (ho4.below HB.out.size HF.out)); clear hd4 ho4
        go_wp2
        go_ret
        exact ⟨rfl, HB4.out⟩
      · have hmin : min (k : Int) F = (n : Int) := by omega
        have hn : ((n : Int) == (k : Int)) = false := by simp; omega
        have CF := Lib.hid cf; have HB := Lib.hid hb; have HF := Lib.hid hfr; have HDN := Lib.hid b
        have hpl := fi.2.1
        clear cf hd hb fi hfr b
        unfold Ids.ptr Ids.with at CF
        go_wp2_with fail
        refine CF.out.mono ?_
        rintro e w4 ⟨rfl, hd4, ho4⟩
        have hb4 := HB.out.trans (ho4.below HB.out.size HF.out)
        have HB4 := Lib.hid hb4; have HD4 := Lib.hid hd4; clear hd4 ho4 hb4
        go_wp2_with fail
        refine (CQ.out _).mono ?_
        rintro e w5 ⟨rfl, hb5⟩
        have hd5 := HD4.out.kept hb5
        have hb5' := below_then HB4.out hb5 HB4.out.size
        have c := write_any hd5 0 db (by have := hd5.box.lt; have := hd5.bg; omega) (by show S.pend.length ≤ _; omega)
        rw [show ({ S with fuel := if (9 : Int) < 0 then -1 else 9 } : Dsk).write 0 db = ({ S with fuel := if (9 : Int) < 0 then -1 else 9 }, 20) from by unfold Dsk.write; rw [if_pos HDN.out]] at c
        have C := Lib.hid c; have HB5 := Lib.hid hb5'; have HF5 := Lib.hid (fun j hj => Nat.le_trans S1.out (hd5.foot_lt (k := j) hj).1)
        clear c hd5 hb5 hb5'
        unfold Ids.ptr Ids.with at C
        go_wp2_with fail
        refine C.out.mono ?_
        rintro e w6 ⟨rfl, p6, hd6, ho6⟩
        have HB6 := Lib.hid (HB5.out.trans (ho6.below HB5.out.size HF5.out)); clear hd6 ho6
        go_wp2
        go_ret
        exact ⟨rfl, HB6.out⟩

theorem walk_DiskFuel (F tries : Int) (w : World) (h0 : -9223372036854775808 ≤ F) (h1 : F ≤ 9223372036854775807) (t0 : -9223372036854775808 ≤ tries) (t1 : tries ≤ 9223372036854775807) :
    Calls Try.prog 8 #[.int .i64 F, .int .i64 tries] w fun e w' => e = .returned (.bool true) ∧ Below w.heap.size w w' := by
  by_cases h : tries ≤ 300
  · exact fuel_core F tries w h0 h1 t0 h
  · have CA := Lib.hid (awake_any w)
    have CN := Lib.hid (fun w => new_good 2 w (by omega) (by omega))
    go_enter Try.func8, Try.ntmps8
    go_wp2_with fail
    refine CA.out.mono ?_
    rintro e w1 ⟨rfl, hb1⟩
    go_wp2_with fail
    refine (CN.out w1).mono ?_
    rintro e w2 ⟨I, rfl, hd2, hb2⟩
    have HB2 := Lib.hid (below_then hb1 hb2 hb1.size); clear hb1 hb2 hd2
    unfold Ids.ptr
    go_wp2
    go_ret
    exact ⟨rfl, HB2.out⟩
end Go.Proofs.Ytlbpbegnknpckaa
