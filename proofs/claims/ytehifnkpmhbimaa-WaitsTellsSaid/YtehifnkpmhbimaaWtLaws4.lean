/- The walk of WaitsTells. -/
import Derived.Test.YtehifnkpmhbimaaWtRef3
import Derived.Test.YtehifnkpmhbimaaWtAwake
set_option linter.unusedVariables false
set_option linter.unusedSimpArgs false
namespace Go.Proofs.Ytehifnkpmhbimaa
open Go.RowKit

/-- Two answers, alike. -/
def Two (w : World) (k : IntKind) (v u : Value) : Prop := ∃ n f, Row w w.heap.size k v n f ∧ Row w w.heap.size k u n f ∧ n ≤ maxLen
theorem Two.kept {w w' : World} {k : IntKind} {v u : Value} (h : Two w k v u) (hb : Below w.heap.size w w') : Two w' k v u := by
  obtain ⟨n, f, h1, h2, h3⟩ := h
  exact ⟨n, f, (h1.below hb (Nat.le_refl _)).mono hb.size, (h2.below hb (Nat.le_refl _)).mono hb.size, h3⟩
theorem Two.none (w : World) (k : IntKind) : Two w k (.slice none 0 0) (.slice none 0 0) :=
  ⟨0, fun _ => 0, ⟨_, 0, rfl, fun _ => ⟨rfl, rfl⟩, fun h => absurd h (Nat.lt_irrefl 0)⟩, ⟨_, 0, rfl, fun _ => ⟨rfl, rfl⟩, fun h => absurd h (Nat.lt_irrefl 0)⟩, Nat.zero_le _⟩

/-- Two calls, one behind the other, answer alike. -/
def Pair (P : Program) (f g : FuncId) (args : Array Value) (k : IntKind) (w : World) : Prop :=
  Calls P f args w fun e w1 => ∃ v c, e = .returned (.tuple #[v, .int .i64 c]) ∧ Below w.heap.size w w1 ∧ Calls P g args w1 fun e w2 => ∃ u, e = .returned (.tuple #[u, .int .i64 c]) ∧ Two w2 k v u ∧ Below w1.heap.size w1 w2

theorem pair_digests (n : Int) (va : Value) (m : Nat) (s t : Nat → Int) (w : World) (h0 : -9223372036854775808 ≤ n) (h1 : n ≤ 9223372036854775807) (ha : ArcI w w.heap.size va m s t) :
    Pair Try.prog 10 11 #[.int .i64 n, va] .u64 w := by
  by_cases hf : Fine n m s t
  · have hin := hf.inn
    have har := hf.arcs ha
    have h64 := hf.2.1
    obtain ⟨k, rfl⟩ := Int.eq_ofNat_of_zero_le hf.1
    rw [Int.toNat_natCast] at hin
    refine (digests_good va k _ w (by omega) har hin).mono ?_
    rintro e w1 ⟨v, rfl, hr, hb⟩
    refine ⟨v, 0, rfl, hb, (rdigests_good va k _ w1 (by omega) ((ArcI.below har hb (Nat.le_refl _)).mono hb.size) hin).mono ?_⟩
    rintro e w2 ⟨u, rfl, hr2, hb2⟩
    exact ⟨u, rfl, ⟨k, _, (hr.below hb2 (Nat.le_refl _)).mono hb2.size, hr2, by unfold maxLen; omega⟩, hb2⟩
  · refine (digests_bad va n m s t w h0 h1 ha hf).mono ?_
    rintro e w1 ⟨rfl, hb⟩
    refine ⟨_, 1, rfl, hb, (rdigests_bad va n m s t w1 h0 h1 ((ha.below hb (Nat.le_refl _)).mono hb.size) hf).mono ?_⟩
    rintro e w2 ⟨rfl, hb2⟩
    exact ⟨_, rfl, Two.none _ _, hb2⟩

theorem pair_circle (n x : Int) (va : Value) (m : Nat) (s t : Nat → Int) (w : World) (h0 : -9223372036854775808 ≤ n) (h1 : n ≤ 9223372036854775807) (ha : ArcI w w.heap.size va m s t) :
    Pair Try.prog 12 13 #[.int .i64 n, va, .int .i64 x] .i64 w := by
  by_cases hr : Rfs n m s t x
  · refine (circle_bad va n x m s t w h0 h1 ha hr).mono ?_
    rintro e w1 ⟨rfl, hb⟩
    refine ⟨_, 1, rfl, hb, (rcircle_bad va n x m s t w1 h0 h1 ((ha.below hb (Nat.le_refl _)).mono hb.size) hr).mono ?_⟩
    rintro e w2 ⟨rfl, hb2⟩
    exact ⟨_, rfl, Two.none _ _, hb2⟩
  · have hf : Fine n m s t := Classical.byContradiction fun h => hr (.inl h)
    have hx : 0 ≤ x ∧ x < n := by
      constructor
      · rcases Int.lt_or_le x 0 with h | h
        · exact absurd (.inr (.inl h)) hr
        · exact h
      · rcases Int.lt_or_le x n with h | h
        · exact h
        · exact absurd (.inr (.inr h)) hr
    have hin := hf.inn
    have har := hf.arcs ha
    have h64 := hf.2.1
    obtain ⟨k, rfl⟩ := Int.eq_ofNat_of_zero_le hf.1
    obtain ⟨y, rfl⟩ := Int.eq_ofNat_of_zero_le hx.1
    rw [Int.toNat_natCast] at hin
    have hy : y < k := by omega
    rcases hon : (arcsOf m s t).on k y with _ | _
    · refine (circle_off va k y _ w (by omega) hy har hin hon).mono ?_
      rintro e w1 ⟨rfl, hb⟩
      refine ⟨_, 0, rfl, hb, (rcircle_good va k y _ w1 (by omega) hy ((ArcI.below har hb (Nat.le_refl _)).mono hb.size) hin).mono ?_⟩
      rintro e w2 ⟨⟨h, _⟩ | ⟨_, rfl⟩, hb2⟩
      · rw [hon] at h; cases h
      · exact ⟨_, rfl, Two.none _ _, hb2⟩
    · have hfar := ((arcsOf m s t).q_on hon 0 (Nat.zero_le _)).2.2
      refine (circle_on va k y _ w (by omega) hy har hin hon).mono ?_
      rintro e w1 ⟨v, rfl, hr1, hb⟩
      refine ⟨_, 0, rfl, hb, (rcircle_good va k y _ w1 (by omega) hy ((ArcI.below har hb (Nat.le_refl _)).mono hb.size) hin).mono ?_⟩
      rintro e w2 ⟨⟨_, u, rfl, hr2⟩ | ⟨h, _⟩, hb2⟩
      · exact ⟨u, rfl, ⟨_, _, (hr1.below hb2 (Nat.le_refl _)).mono hb2.size, hr2, by unfold maxLen; omega⟩, hb2⟩
      · rw [hon] at h; cases h

set_option maxHeartbeats 4000000 in
theorem tells_law (n x : Int) (va : Value) (m : Nat) (s t : Nat → Int) (w : World) (h0 : -9223372036854775808 ≤ n) (h1 : n ≤ 9223372036854775807) (ha : ArcI w w.heap.size va m s t) :
    Calls Try.prog 3 #[.int .i64 n, va, .int .i64 x] w fun e w' => e = .returned (.bool true) ∧ Below w.heap.size w w' := by
  have CA := Lib.hid (awake_any w)
  have CD := Lib.hid (fun (w' : World) (hb : Below w.heap.size w w') => pair_digests n va m s t w' h0 h1 ((ha.below hb (Nat.le_refl _)).mono hb.size))
  have CC := Lib.hid (fun (w' : World) (hb : Below w.heap.size w w') => pair_circle n x va m s t w' h0 h1 ((ha.below hb (Nat.le_refl _)).mono hb.size))
  clear ha
  go_enter Try.func3, Try.ntmps3
  go_wp2_with fail
  refine CA.out.mono ?_
  rintro e w1 ⟨rfl, hb1⟩
  have B1 := Lib.hid hb1
  clear hb1
  go_wp2_with fail
  refine (CD.out w1 B1.out).mono ?_
  rintro e w2 ⟨v2, c2, rfl, hb2, hnext⟩
  have B2 := Lib.hid (below_then B1.out hb2 B1.out.size); have N2 := Lib.hid hnext
  clear hb2 hnext CD
  go_wp2_with fail
  refine N2.out.mono ?_
  rintro e w3 ⟨v3, rfl, ht, hb3⟩
  have B3 := Lib.hid (below_then B2.out hb3 B2.out.size); have T3 := Lib.hid ht
  clear hb3 ht N2
  go_wp2_with fail
  refine (CC.out w3 B3.out).mono ?_
  rintro e w4 ⟨v4, c4, rfl, hb4, hnext⟩
  have B4 := Lib.hid (below_then B3.out hb4 B3.out.size); have N4 := Lib.hid hnext; have T4 := Lib.hid (T3.out.kept hb4)
  clear hb4 hnext CC T3
  go_wp2_with fail
  refine N4.out.mono ?_
  rintro e w5 ⟨v5, rfl, ht, hb5⟩
  have B5 := Lib.hid (below_then B4.out hb5 B4.out.size); have U5 := Lib.hid ht
  obtain ⟨nn, ff, r1, r2, rm⟩ := T4.out.kept hb5
  have CS := Lib.hid (sameBits_any v2 v3 nn nn ff ff w5 r1 r2 rm)
  clear hb5 ht N4 T4 r1 r2 rm
  go_wp2_with fail
  refine CS.out.mono ?_
  rintro e w6 ⟨⟨rfl, _⟩ | ⟨_, hno⟩, hb6⟩
  · have B6 := Lib.hid (below_then B5.out hb6 B5.out.size)
    obtain ⟨nm, fm, r1, r2, rm⟩ := U5.out.kept hb6
    have CI := Lib.hid (sameInts_any v4 v5 nm nm fm fm w6 r1 r2 rm)
    clear hb6 CS r1 r2 rm
    go_wp2_with fail
    refine CI.out.mono ?_
    rintro e w7 ⟨⟨rfl, _⟩ | ⟨_, hno⟩, hb7⟩
    · have B7 := Lib.hid (below_then B6.out hb7 B6.out.size)
      clear hb7
      go_wp2
      go_ret
      exact ⟨rfl, B7.out⟩
    · exact absurd ⟨rfl, fun i _ => rfl⟩ hno
  · exact absurd ⟨rfl, fun i _ => rfl⟩ hno

theorem walk_WaitsTells (n : Int) (va : Value) (qa : Slq) (x : Int) (w : World) (h0 : -9223372036854775808 ≤ n) (h1 : n ≤ 9223372036854775807) (ha : va = .slice qa.a qa.len qa.cap ∧ qa.len ≤ qa.cap ∧ ∃ s t, ArcI w w.heap.size va qa.len s t) (g0 : -9223372036854775808 ≤ x) (g1 : x ≤ 9223372036854775807) :
    Calls Try.prog 3 #[.int .i64 n, va, .int .i64 x] w fun e w' => e = .returned (.bool true) ∧ Below w.heap.size w w' := by
  obtain ⟨hv, hc, s, t, ha⟩ := ha
  exact tells_law n x va qa.len s t w h0 h1 ha
end Go.Proofs.Ytehifnkpmhbimaa
