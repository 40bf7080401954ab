/- The walks of WaitsMore and WaitsCloses. -/
import Derived.Test.YtehifnkpmhbimaaWtAwake
import Derived.Laws.BitsAllLaws
set_option linter.unusedVariables false
set_option linter.unusedSimpArgs false
namespace Go.Proofs.Ytehifnkpmhbimaa
open Go.RowKit

theorem no_more {a b : Nat} (ha : a < 18446744073709551616) (hb : b < 18446744073709551616) (h : ∀ x, a.testBit x = true → b.testBit x = true) : bits .andNot .u64 (a : Int) (b : Int) = 0 := by
  rw [u64_andNot_nat a b ha hb]
  have : a &&& (18446744073709551615 - b) = 0 := by
    apply Nat.eq_of_testBit_eq
    intro x
    rw [Nat.testBit_and, Nat.zero_testBit]
    rw [show 18446744073709551615 - b = 2 ^ 64 - (b + 1) by omega, Nat.testBit_two_pow_sub_succ (by omega)]
    rcases hx : a.testBit x with _ | _
    · rfl
    · simp [h x hx]
  rw [this]; rfl
theorem bit_of {a : Nat} (k : Nat) (ha : a < 18446744073709551616) : bits .and .u64 ((a : Int) / 2 ^ k) 1 = if a.testBit k then 1 else 0 := by
  have e : ((a : Int) / 2 ^ k) = ((a / 2 ^ k : Nat) : Int) := by simp
  have h1 := bits_and_u64_nat (a / 2 ^ k) 1 (Nat.lt_of_le_of_lt (Nat.div_le_self _ _) ha) (by omega)
  rw [e, show (1 : Int) = ((1 : Nat) : Int) from rfl, h1, Nat.and_one_is_mod, Nat.testBit_eq_decide_div_mod_eq]
  have := Nat.mod_lt (a / 2 ^ k) (show 0 < 2 by omega)
  by_cases h : a / 2 ^ k % 2 = 1
  · simp [h]
  · rw [show a / 2 ^ k % 2 = 0 by omega]; simp

theorem neg_lt_tmod (a b : Int) (h : 0 < b) : -b < a.tmod b := by
  have := Int.tmod_lt_of_pos (-a) h
  rw [Int.neg_tmod] at this
  omega
theorem cut_at {w : World} {B m k : Nat} {c : Nat} {a : Option Addr} {s t : Nat → Int} (h : ArcI w B (.slice a m c) m s t) (hk : k ≤ m) (c' : Nat) : ArcI w B (.slice a k c') k s t := by
  obtain ⟨a', c'', e, hm, h⟩ := h
  injection e with e1 e2 e3
  subst e1
  refine ⟨a, c', rfl, Nat.le_trans hk hm, fun h0 => ?_⟩
  obtain ⟨b, off, e, hlt, hc⟩ := h (by omega)
  exact ⟨b, off, e, hlt, fun i hi => hc i (by omega)⟩
theorem none_at (w : World) (B : Nat) (s t : Nat → Int) : ArcI w B (.slice none 0 0) 0 s t := ⟨none, 0, rfl, Nat.zero_le _, fun h => absurd h (Nat.lt_irrefl 0)⟩
theorem Fine.cut {n : Int} {m k : Nat} {s t : Nat → Int} (h : Fine n m s t) (hk : k ≤ m) : Fine n k s t := ⟨h.1, h.2.1, fun i hi => h.2.2 i (by omega)⟩

set_option maxHeartbeats 2000000 in
theorem more_bad (n more : Int) (va : Value) (m : Nat) (s t : Nat → Int) (w : World) (h0 : -9223372036854775808 ≤ n) (h1 : n ≤ 9223372036854775807) (ha : ArcI w w.heap.size va m s t) (hf : ¬ Fine n m s t) :
    Calls Try.prog 7 #[.int .i64 n, va, .int .i64 more] w fun e w' => e = .returned (.bool true) ∧ Below w.heap.size w w' := by
  have CA := Lib.hid (awake_any w)
  have CD := Lib.hid (fun (w' : World) (hb : Below w.heap.size w w') => digests_bad va n m s t w' h0 h1 ((ha.below hb (Nat.le_refl _)).mono hb.size) hf)
  clear hf ha
  go_enter Try.func7, Try.ntmps7
  go_wp2_with fail
  refine CA.out.mono ?_
  rintro e w1 ⟨rfl, hb1⟩
  have B1 := Lib.hid hb1
  clear hb1
  go_wp2_with fail
  refine (CD.out w1 B1.out).mono ?_
  rintro e w2 ⟨rfl, hb2⟩
  have B2 := Lib.hid (below_then B1.out hb2 B1.out.size)
  clear hb2
  go_wp2
  go_ret
  exact ⟨rfl, B2.out⟩

set_option maxHeartbeats 4000000 in
theorem more_good (n : Nat) (more : Int) (a : Option Addr) (m c : Nat) (s t : Nat → Int) (w : World) (g0 : -9223372036854775808 ≤ more) (g1 : more ≤ 9223372036854775807) (hmc : m ≤ c) (hm : m ≤ 4611686018427387903) (ha : ArcI w w.heap.size (.slice a m c) m s t) (hf : Fine n m s t) :
    Calls Try.prog 7 #[.int .i64 n, .slice a m c, .int .i64 more] w fun e w' => e = .returned (.bool true) ∧ Below w.heap.size w w' := by
  have hn64 : n ≤ 64 := by have := hf.2.1; omega
  have CA := Lib.hid (awake_any w)
  have inn := fun k (hk : k ≤ m) => show (arcsOf k s t).In n from by have := (hf.cut hk).inn; rwa [Int.toNat_natCast] at this
  have CD := Lib.hid (fun (w' : World) (hb : Below w.heap.size w w') => digests_good (.slice a m c) n (arcsOf m s t) w' hn64 (hf.arcs ((ha.below hb (Nat.le_refl _)).mono hb.size)) (inn m (Nat.le_refl _)))
  have CK := Lib.hid (fun (w' : World) (hb : Below w.heap.size w w') k (hk : k ≤ m) => digests_good (.slice a k c) n (arcsOf k s t) w' hn64 ((hf.cut hk).arcs (cut_at ((ha.below hb (Nat.le_refl _)).mono hb.size) hk c)) (inn k hk))
  have CN := Lib.hid (fun (w' : World) => digests_good (.slice none 0 0) n (arcsOf 0 s t) w' hn64 ((hf.cut (Nat.zero_le _)).arcs (none_at _ _ _ _)) (inn 0 (Nat.zero_le _)))
  have IN := Lib.hid inn
  obtain ⟨kk, hkk, hkm⟩ : ∃ k : Nat, (((more.tmod ((m : Int) + 1)) + (m : Int) + 1).tmod ((m : Int) + 1)) = (k : Int) ∧ k ≤ m := by
    have b1 := Int.tmod_lt_of_pos more (show (0 : Int) < (m : Int) + 1 by omega)
    have b2 : -((m : Int) + 1) < more.tmod ((m : Int) + 1) := neg_lt_tmod _ _ (by omega)
    have b3 := Int.tmod_nonneg ((m : Int) + 1) (show 0 ≤ more.tmod ((m : Int) + 1) + (m : Int) + 1 by omega)
    have b4 := Int.tmod_lt_of_pos (more.tmod ((m : Int) + 1) + (m : Int) + 1) (show (0 : Int) < (m : Int) + 1 by omega)
    exact ⟨_, (Int.toNat_of_nonneg b3).symm, by omega⟩
  have b3 : 0 ≤ more.tmod ((m : Int) + 1) + (m : Int) + 1 := by have : -((m : Int) + 1) < more.tmod ((m : Int) + 1) := neg_lt_tmod _ _ (by omega); omega
  rw [Int.tmod_eq_emod_of_nonneg b3] at hkk
  have hb1 := Int.tmod_lt_of_pos more (show (0 : Int) < (m : Int) + 1 by omega)
  have hb2 : -((m : Int) + 1) < more.tmod ((m : Int) + 1) := neg_lt_tmod _ _ (by omega)
  have CK1 := Lib.hid (fun (w' : World) (hb : Below w.heap.size w w') => CK.out w' hb kk hkm)
  have hkc : (kk : Int) ≤ (c : Int) := by omega
  have LE := Lib.hid (fun i => no_more (a := (arcsOf kk s t).it n i) (b := (arcsOf m s t).it n i))
  have LT := Lib.hid (fun k (hk : k ≤ m) i (hi : i < n) => (arcsOf k s t).it_lt (inn k hk) hn64 n i hi)
  have MO := Lib.hid (fun i x => (arcsOf m s t).it_cut (k := kk) hkm n i x)
  have NO := Lib.hid (fun i => (arcsOf 0 s t).it_none rfl n i)
  clear hf ha inn CK
  go_enter Try.func7, Try.ntmps7
  go_wp2_with fail
  refine CA.out.mono ?_
  rintro e w1 ⟨rfl, hb1'⟩
  have B1 := Lib.hid hb1'
  clear hb1'
  go_wp2_with fail
  refine (CD.out w1 B1.out).mono ?_
  rintro e w2 ⟨v2, rfl, hr2, hb2'⟩
  have B2 := Lib.hid (below_then B1.out hb2' B1.out.size); have R2 := Lib.hid hr2
  clear hb2' hr2
  go_wp2_with fail
  refine (CK1.out w2 B2.out).mono ?_
  rintro e w3 ⟨v3, rfl, hr3, hb3'⟩
  have B3 := Lib.hid (below_then B2.out hb3' B2.out.size); have R3 := Lib.hid hr3; have R23 := Lib.hid (R2.out.below hb3' (Nat.le_refl _) |>.mono hb3'.size)
  clear hb3' hr3 R2 CK1 CD hkk hb1 hb2 b3 hkc
  go_wp2_with fail
  refine (CN.out w3).mono ?_
  rintro e w4 ⟨v4, rfl, hr4, hb4'⟩
  have B4 := Lib.hid (below_then B3.out hb4' B3.out.size); have R4 := Lib.hid hr4; have R24 := Lib.hid (R23.out.below hb4' (Nat.le_refl _) |>.mono hb4'.size); have R34 := Lib.hid (R3.out.below hb4' (Nat.le_refl _) |>.mono hb4'.size)
  clear hb4' hr4 R23 R3 CN
  obtain ⟨a2, c2, rfl, _, r2⟩ := R24.out
  obtain ⟨a3, c3, rfl, _, r3⟩ := R34.out
  obtain ⟨a4, c4, rfl, _, r4⟩ := R4.out
  have Q2 := Lib.hid r2; have Q3 := Lib.hid r3; have Q4 := Lib.hid r4
  clear r2 r3 r4 R24 R34 R4
  go_wp2_with fail
  go_loopw [71] (fun i wr => ∃ k : Nat, k ≤ n ∧ i = .int .i64 k ∧ Below w.heap.size w wr ∧ Below w4.heap.size w4 wr) (fun i _ => n - (intOf i).toNat)
  case atStart => exact ⟨0, Nat.zero_le _, rfl, B4.out, Below.refl _ _⟩
  case round =>
    obtain ⟨k, hk, rfl, hb, hb'⟩ := hrel
    have HB := Lib.hid hb; have HB' := Lib.hid hb'
    clear hb hb'
    by_cases hlt : k < n
    · obtain ⟨g2, o2, rfl, l2, r2⟩ := Q2.out (by omega)
      obtain ⟨g3, o3, rfl, l3, r3⟩ := Q3.out (by omega)
      obtain ⟨g4, o4, rfl, l4, r4⟩ := Q4.out (by omega)
      have y2 := r2 k hlt; have y3 := r3 k hlt; have y4 := r4 k hlt
      rw [← HB'.out.cell (p := ⟨g2, o2 + k, none⟩) l2] at y2
      rw [← HB'.out.cell (p := ⟨g3, o3 + k, none⟩) l3] at y3
      rw [← HB'.out.cell (p := ⟨g4, o4 + k, none⟩) l4] at y4
      have an := LE.out k (LT.out kk hkm k hlt) (LT.out m (Nat.le_refl _) k hlt) (MO.out k)
      rw [NO.out k] at y4
      clear r2 r3 r4 l2 l3 l4 Q2 Q3 Q4
      generalize (arcsOf kk s t).it n k = xl at *
      generalize (arcsOf m s t).it n k = xd at *
      go_wp2_with fail
      go_region
      go_wp2
      go_roundw
      case rel => exact ⟨k + 1, by omega, by go_num, HB.out.drew, HB'.out.drew⟩
      case measure => simp [intOf]; omega
    · go_wp2
      go_ret
      exact ⟨rfl, HB.out⟩

theorem walk_WaitsMore (n : Int) (va : Value) (qa : Slq) (more : Int) (w : World) (h0 : -9223372036854775808 ≤ n) (h1 : n ≤ 9223372036854775807) (ha : va = .slice qa.a qa.len qa.cap ∧ qa.len ≤ qa.cap ∧ ∃ s t, ArcI w w.heap.size va qa.len s t) (hs : qa.cap * 16 ≤ 140737488351232)
    (g0 : -9223372036854775808 ≤ more) (g1 : more ≤ 9223372036854775807) :
    Calls Try.prog 7 #[.int .i64 n, va, .int .i64 more] w fun e w' => e = .returned (.bool true) ∧ Below w.heap.size w w' := by
  obtain ⟨hv, hc, s, t, ha⟩ := ha
  by_cases hf : Fine n qa.len s t
  · obtain ⟨k, rfl⟩ := Int.eq_ofNat_of_zero_le hf.1
    subst hv
    exact more_good k more qa.a qa.len qa.cap s t w g0 g1 hc (by omega) ha hf
  · exact more_bad n more va qa.len s t w h0 h1 ha hf

set_option maxHeartbeats 2000000 in
theorem closes_bad (n : Int) (va : Value) (m : Nat) (s t : Nat → Int) (w : World) (h0 : -9223372036854775808 ≤ n) (h1 : n ≤ 9223372036854775807) (ha : ArcI w w.heap.size va m s t) (hf : ¬ Fine n m s t) :
    Calls Try.prog 8 #[.int .i64 n, va] w fun e w' => e = .returned (.bool true) ∧ Below w.heap.size w w' := by
  have CA := Lib.hid (awake_any w)
  have CD := Lib.hid (fun (w' : World) (hb : Below w.heap.size w w') => digests_bad va n m s t w' h0 h1 ((ha.below hb (Nat.le_refl _)).mono hb.size) hf)
  clear hf ha
  go_enter Try.func8, Try.ntmps8
  go_wp2_with fail
  refine CA.out.mono ?_
  rintro e w1 ⟨rfl, hb1⟩
  have B1 := Lib.hid hb1
  clear hb1
  go_wp2_with fail
  refine (CD.out w1 B1.out).mono ?_
  rintro e w2 ⟨rfl, hb2⟩
  have B2 := Lib.hid (below_then B1.out hb2 B1.out.size)
  clear hb2
  go_wp2
  go_ret
  exact ⟨rfl, B2.out⟩

set_option maxHeartbeats 4000000 in
theorem closes_good (n : Nat) (va : Value) (A : Arcs) (w : World) (hn64 : n ≤ 64) (ha : IsArcs w w.heap.size va A) (hA : A.In n) :
    Calls Try.prog 8 #[.int .i64 n, va] w fun e w' => e = .returned (.bool true) ∧ Below w.heap.size w w' := by
  have CA := Lib.hid (awake_any w)
  have CD := Lib.hid (fun (w' : World) (hb : Below w.heap.size w w') => digests_good va n A w' hn64 ((ArcI.below ha hb (Nat.le_refl _)).mono hb.size) hA)
  have LT := Lib.hid (fun i (hi : i < n) => A.it_lt hA hn64 n i hi)
  have HA := Lib.hid hA
  obtain ⟨a, c, rfl, hm, ha⟩ := ha
  have HR := Lib.hid ha
  have hm' : A.m ≤ 9223372036854775807 := by simp only [maxLen] at hm; omega
  clear ha hA hm
  go_enter Try.func8, Try.ntmps8
  go_wp2_with fail
  refine CA.out.mono ?_
  rintro e w1 ⟨rfl, hb1'⟩
  have B1 := Lib.hid hb1'
  clear hb1'
  go_wp2_with fail
  refine (CD.out w1 B1.out).mono ?_
  rintro e w2 ⟨v2, rfl, hr2, hb2'⟩
  have B2 := Lib.hid (below_then B1.out hb2' B1.out.size)
  obtain ⟨a2, c2, rfl, _, r2⟩ := hr2
  have Q2 := Lib.hid r2
  clear hb2' r2 CD
  go_wp2_with fail
  go_loopw [23] (fun i wr => ∃ k : Nat, k ≤ A.m ∧ i = .int .i64 k ∧ Below w.heap.size w wr ∧ Below w2.heap.size w2 wr) (fun i _ => A.m - (intOf i).toNat)
  case atStart => exact ⟨0, Nat.zero_le _, rfl, B2.out, Below.refl _ _⟩
  case round =>
    obtain ⟨k, hk, rfl, hb, hb'⟩ := hrel
    have HB := Lib.hid hb; have HB' := Lib.hid hb'
    clear hb hb'
    by_cases hlt : k < A.m
    · obtain ⟨hs, ht⟩ := HA.out k hlt
      obtain ⟨b, off, rfl, hbB, hcell⟩ := HR.out (by omega)
      obtain ⟨g2, o2, rfl, l2, r2⟩ := Q2.out (by omega)
      have q0 : wr.cell? ⟨b, off + k * 2, none⟩ = some (.int .i64 (A.s k)) := by rw [HB.out.cell (p := ⟨b, off + k * 2, none⟩) hbB]; exact (hcell k hlt).1
      have q1 : wr.cell? ⟨b, off + k * 2 + 1, none⟩ = some (.int .i64 (A.t k)) := by rw [HB.out.cell (p := ⟨b, off + k * 2 + 1, none⟩) hbB]; exact (hcell k hlt).2
      have HB3 := Lib.hid (HB.out.alloc HB.out.size (.cells #[.int .i64 (A.s k), .int .i64 (A.t k)] 42))
      have HB3' := Lib.hid (HB'.out.alloc HB'.out.size (.cells #[.int .i64 (A.s k), .int .i64 (A.t k)] 42))
      have GA := Lib.hid (Bk.new wr 42 #[.int .i64 (A.s k), .int .i64 (A.t k)])
      have bt := bit_of (A.t k) (LT.out _ hs)
      rw [A.it_arc HA.out hlt, if_pos rfl] at bt
      have an := no_more (LT.out _ ht) (LT.out _ hs) (fun x hx => A.it_trans HA.out hs (A.it_arc HA.out hlt) hx)
      have BT := Lib.hid bt; have AN := Lib.hid an; have RR := Lib.hid r2
      clear bt an r2 hcell
      generalize A.s k = sk at *
      generalize A.t k = tk at *
      go_wp2_with fail
      have y0 := GA.out.cell 0; have y1 := GA.out.cell 1
      simp only [List.getElem?_toArray, List.getElem?_cons_zero, List.getElem?_cons_succ] at y0 y1
      have y2 := RR.out sk hs; have y3 := RR.out tk ht
      rw [← HB3'.out.cell (p := ⟨g2, o2 + sk, none⟩) l2] at y2
      rw [← HB3'.out.cell (p := ⟨g2, o2 + tk, none⟩) l2] at y3
      have bt := BT.out; have an := AN.out
      clear GA q0 q1 BT AN RR
      generalize (wr.alloc (.cells #[.int .i64 sk, .int .i64 tk] 42)) = wa at *
      generalize A.it n sk = xs at *
      generalize A.it n tk = xt at *
      go_region
      go_wp2
      go_roundw
      case rel => exact ⟨k + 1, by omega, by go_num, HB3.out.drew, HB3'.out.drew⟩
      case measure => simp [intOf]; omega
    · go_wp2_with fail
      have BO := Lib.hid HB.out; have BO' := Lib.hid HB'.out
      clear HR
      go_loopw [54] (fun i wr => ∃ k : Nat, k ≤ n ∧ i = .int .i64 k ∧ Below w.heap.size w wr ∧ Below w2.heap.size w2 wr) (fun i _ => n - (intOf i).toNat)
      case atStart => exact ⟨0, Nat.zero_le _, rfl, BO.out, BO'.out⟩
      case round =>
        clear BO BO' HB HB' hlt hk
        obtain ⟨i, hi, rfl, hb, hb'⟩ := hrel
        have HB := Lib.hid hb; have HB' := Lib.hid hb'
        clear hb hb'
        by_cases hlt : i < n
        · go_wp2_with fail
          go_loopw [59] (fun j wr => ∃ k : Nat, k ≤ n ∧ j = .int .i64 k ∧ Below w.heap.size w wr ∧ Below w2.heap.size w2 wr) (fun j _ => n - (intOf j).toNat)
          case atStart => exact ⟨0, Nat.zero_le _, rfl, HB.out, HB'.out⟩
          case round =>
            clear HB HB'
            obtain ⟨j, hj, rfl, hb, hb'⟩ := hrel
            have HB := Lib.hid hb; have HB' := Lib.hid hb'
            clear hb hb'
            by_cases hlj : j < n
            · obtain ⟨g2, o2, rfl, l2, r2⟩ := Q2.out (by omega)
              have y2 := r2 i hlt; have y3 := r2 j hlj
              rw [← HB'.out.cell (p := ⟨g2, o2 + i, none⟩) l2] at y2
              rw [← HB'.out.cell (p := ⟨g2, o2 + j, none⟩) l2] at y3
              have bt := bit_of j (LT.out _ hlt)
              rcases hbit : (A.it n i).testBit j with _ | _
              · rw [hbit, if_neg (by simp)] at bt
                clear r2 hbit
                generalize A.it n i = xs at *
                generalize A.it n j = xt at *
                go_wp2_with fail
                go_region
                go_wp2
                go_roundw
                case rel => exact ⟨j + 1, by omega, by go_num, HB.out.drew, HB'.out.drew⟩
                case measure => simp [intOf]; omega
              · rw [hbit, if_pos rfl] at bt
                have an := no_more (LT.out _ hlj) (LT.out _ hlt) (fun x hx => A.it_trans HA.out hlt hbit hx)
                clear r2 hbit
                generalize A.it n i = xs at *
                generalize A.it n j = xt at *
                go_wp2_with fail
                go_region
                go_wp2
                go_roundw
                case rel => exact ⟨j + 1, by omega, by go_num, HB.out.drew, HB'.out.drew⟩
                case measure => simp [intOf]; omega
            · go_wp2
              go_roundw
              case rel => exact ⟨i + 1, by omega, by go_num, HB.out, HB'.out⟩
              case measure => simp [intOf]; omega
        · go_wp2
          go_ret
          exact ⟨rfl, HB.out⟩

theorem walk_WaitsCloses (n : Int) (va : Value) (qa : Slq) (w : World) (h0 : -9223372036854775808 ≤ n) (h1 : n ≤ 9223372036854775807) (ha : va = .slice qa.a qa.len qa.cap ∧ qa.len ≤ qa.cap ∧ ∃ s t, ArcI w w.heap.size va qa.len s t) :
    Calls Try.prog 8 #[.int .i64 n, va] w fun e w' => e = .returned (.bool true) ∧ Below w.heap.size w w' := by
  obtain ⟨hv, hc, s, t, ha⟩ := ha
  by_cases hf : Fine n qa.len s t
  · have hin := hf.inn
    have har := hf.arcs ha
    have h64 := hf.2.1
    obtain ⟨k, rfl⟩ := Int.eq_ofNat_of_zero_le hf.1
    rw [Int.toNat_natCast] at hin
    exact closes_good k va _ w (by omega) har hin
  · exact closes_bad n va qa.len s t w h0 h1 ha hf
end Go.Proofs.Ytehifnkpmhbimaa
