/- The walk of OctetOrder. -/
import Derived.Test.YtfhdafpcppdjnaaOctLaws1
import Derived.Test.YtfhdafpcppdjnaaOctPlain2
import Derived.Deep.QuietTactic
import Derived.BigQuiet
set_option linter.unusedVariables false
set_option linter.unusedSimpArgs false
namespace Go.Proofs.Ytfhdafpcppdjnaa
open Go.RowKit

set_option maxHeartbeats 400000 in
theorem order_core (a b : Nat) (x y : ByteArray) (w : World) (ha : a < 18446744073709551616) (hb : b < 18446744073709551616) (hx : x.size = 8) (hy : y.size = 8)
    (gx : ∀ (j : Nat) (h : j < x.size), x[j].toNat = Oct.rest a j % 256) (gy : ∀ (j : Nat) (h : j < y.size), y[j].toNat = Oct.rest b j % 256)
    (c : ∀ w : World, Calls Try.prog 10 #[.int .u64 a, .int .i64 8] w fun e w' => e = .returned (.tuple #[.string x, .int .i64 0]) ∧ Below w.heap.size w w')
    (d : ∀ w : World, Calls Try.prog 10 #[.int .u64 b, .int .i64 8] w fun e w' => e = .returned (.tuple #[.string y, .int .i64 0]) ∧ Below w.heap.size w w') :
    Calls Try.prog 8 #[.int .u64 a, .int .u64 b] w fun e w' => e = .returned (.bool true) ∧ Below w.heap.size w w' := by
  have HA := Lib.hid ha; have HB := Lib.hid hb; have GX := Lib.hid gx; have GY := Lib.hid gy; have C := Lib.hid c; have D := Lib.hid d
  clear ha hb gx gy c d
  have hx1 : ((x.size : Int) != 8) = false := by simp [hx]
  have hy1 : ((y.size : Int) != 8) = false := by simp [hy]
  have HX := Lib.hid hx; have HY := Lib.hid hy; clear hx hy
  go_enter Try.func8, Try.ntmps8
  go_wp2_with fail
  refine (awake_any _).mono ?_
  rintro e w0 ⟨rfl, hb0⟩
  go_wp2_with fail
  refine (C.out _).mono ?_
  rintro e w1 ⟨rfl, hb1⟩
  go_wp2_with fail
  refine (D.out _).mono ?_
  rintro e w2 ⟨rfl, hb2⟩
  have hb : Below w.heap.size w w2 := (hb0.trans (hb1.mono hb0.size)).trans (hb2.mono (hb0.trans (hb1.mono hb0.size)).size)
  clear hb0 hb1 hb2
  go_wp2
  go_loopw [9] (fun i wr => ∃ k : Nat, k ≤ 8 ∧ i = .int .i64 ((k : Int) - 1) ∧ Oct.rest a k = Oct.rest b k ∧ Below w.heap.size w wr) (fun i _ => (intOf i + 1).toNat)
  case atStart =>
    have e : ∀ n, n < 18446744073709551616 → Oct.rest n 8 = 0 := fun n h => Nat.div_eq_of_lt (by simpa using h)
    exact ⟨8, Nat.le_refl _, rfl, by rw [e a HA.out, e b HB.out], hb⟩
  case round =>
    obtain ⟨k, hk, rfl, hr, hbel⟩ := hrel
    have HR := Lib.hid hr; clear hr
    by_cases hlt : 0 < k
    · obtain ⟨j, rfl⟩ : ∃ j, k = j + 1 := ⟨k - 1, by omega⟩
      simp only [show (((j + 1 : Nat) : Int) - 1) = (j : Int) from by omega]
      have hjx : j < x.size := by have := HX.out; omega
      have hjy : j < y.size := by have := HY.out; omega
      have ex := GX.out j hjx
      have ey := GY.out j hjy
      by_cases he : x[j].toNat = y[j].toNat
      · have h1 : ((x[j].toNat : Int) != (y[j].toNat : Int)) = false := by simp [he]
        have hq : Oct.rest a j = Oct.rest b j := Oct.order_eq HR.out (by rw [← ex, ← ey, he])
        have HQ := Lib.hid hq; clear ex ey he hq
        go_wp2
        go_quiet (fail)
        go_wp2
        go_round
        case rel => exact ⟨j, by omega, rfl, HQ.out, Oct.below_drewN hbel _⟩
        case measure => simp [intOf]
      · have h1 : ((x[j].toNat : Int) != (y[j].toNat : Int)) = true := by simp; omega
        have h3 : ((a : Int) != (b : Int)) = true := by
          have : a ≠ b := by
            rintro rfl
            apply he
            rw [ex, ey]
          simp; omega
        by_cases hl : x[j].toNat < y[j].toNat
        · have := Oct.order_lt HR.out (a := a) (b := b) (j := j) (by omega)
          have e1 : decide ((x[j].toNat : Int) < (y[j].toNat : Int)) = true := by simp; omega
          have e2 : decide ((a : Int) < (b : Int)) = true := by simp; omega
          have e3 : decide (x[j].toNat < y[j].toNat) = decide ((x[j].toNat : Int) < (y[j].toNat : Int)) := by simp
          have e4 : decide (a < b) = decide ((a : Int) < (b : Int)) := by simp
          rw [e1] at e3
          rw [e2] at e4
          have h4 : (a != b) = true := by simp; omega
          clear ex ey he hl this
          go_wp2
          go_quiet (fail)
          go_wp2
          go_quiet (fail)
          go_wp2
          go_ret
          exact ⟨rfl, Oct.below_drewN (Oct.below_drewN hbel _) _⟩
        · have := Oct.order_lt (HR.out).symm (a := b) (b := a) (j := j) (by omega)
          have e1 : decide ((x[j].toNat : Int) < (y[j].toNat : Int)) = false := by simp; omega
          have e2 : decide ((a : Int) < (b : Int)) = false := by simp; omega
          have e3 : decide (x[j].toNat < y[j].toNat) = decide ((x[j].toNat : Int) < (y[j].toNat : Int)) := by simp
          have e4 : decide (a < b) = decide ((a : Int) < (b : Int)) := by simp
          rw [e1] at e3
          rw [e2] at e4
          have h4 : (a != b) = true := by simp; omega
          clear ex ey he hl this
          go_wp2
          go_quiet (fail)
          go_wp2
          go_quiet (fail)
          go_wp2
          go_ret
          exact ⟨rfl, Oct.below_drewN (Oct.below_drewN hbel _) _⟩
    · obtain rfl : k = 0 := by omega
      have hab : ((a : Int) == (b : Int)) = true := by
        have := HR.out
        rw [Oct.rest_zero, Oct.rest_zero] at this
        simp [this]
      go_wp2
      go_ret
      exact ⟨rfl, hbel⟩

theorem walk_OctetOrder (n m : Int) (w : World) (h0 : 0 ≤ n) (hn : n ≤ 18446744073709551615) (h1 : 0 ≤ m) (hm : m ≤ 18446744073709551615) :
    Calls Try.prog 8 #[.int .u64 n, .int .u64 m] w fun e w' => e = .returned (.bool true) ∧ Below w.heap.size w w' := by
  obtain ⟨a, rfl⟩ := Int.eq_ofNat_of_zero_le h0
  obtain ⟨b, rfl⟩ := Int.eq_ofNat_of_zero_le h1
  have e : ∀ n : Nat, n < 18446744073709551616 → Oct.rest n 8 = 0 := fun n h => Nat.div_eq_of_lt (by simpa using h)
  exact order_core a b (Oct.str a 8) (Oct.str b 8) w (by omega) (by omega) (Oct.str_size _ _) (Oct.str_size _ _) (Oct.str_get a 8) (Oct.str_get b 8)
    (fun w => num_fits' a 8 w h0 (by omega) (by omega) hn (e a (by omega))) (fun w => num_fits' b 8 w h1 (by omega) (by omega) hm (e b (by omega)))

end Go.Proofs.Ytfhdafpcppdjnaa
