/- The walk of OctetPieces, where both pieces are there. -/
import Derived.Test.YtfhdafpcppdjnaaOctLaws4
set_option linter.unusedVariables false
set_option linter.unusedSimpArgs false
namespace Go.Proofs.Ytfhdafpcppdjnaa
open Go.RowKit

theorem rbytes_ok (s : ByteArray) (n : Nat) (h : n ≤ s.size) : Oct.rbytes (some s) n = (s.extract 0 n, some (s.extract n s.size)) := by
  simp only [Oct.rbytes]; rw [if_neg (by omega), Int.toNat_natCast]
theorem pieces_cat (s : ByteArray) (a b : Nat) (h : a + b ≤ s.size) : s.extract 0 a ++ (s.extract a s.size).extract 0 b = s.extract 0 (a + b) := by
  apply ByteArray.ext
  rw [ByteArray.data_append, ByteArray.data_extract, ByteArray.data_extract, ByteArray.data_extract, ByteArray.data_extract]
  apply Array.ext'
  simp [List.take_drop]
  omega

set_option maxHeartbeats 1000000 in
theorem pieces_walk_ok (s : ByteArray) (a b : Nat) (w : World) (hs : s.size ≤ maxLen) (hab : a + b ≤ s.size) :
    Calls Try.prog 7 #[.string s, .int .i64 a, .int .i64 b] w fun e w' => e = .returned (.bool true) ∧ Below w.heap.size w w' := by
  have z1 : (s.extract a s.size).size = s.size - a := by rw [ByteArray.size_extract]; omega
  have c1 := fun g w h => rd_bytes g (a : Int) (some s) w h hs
  have c2 := fun g w h => rd_bytes g (b : Int) (some (s.extract a s.size)) w h (show (s.extract a s.size).size ≤ maxLen by omega)
  have c3 := fun g w h => rd_bytes g ((a + b : Nat) : Int) (some s) w h hs
  simp only [rbytes_ok s a (by omega)] at c1
  simp only [rbytes_ok (s.extract a s.size) b (by omega)] at c2
  simp only [rbytes_ok s (a + b) (by omega)] at c3
  have z2 : ((s.extract a s.size).extract b (s.extract a s.size).size).size = s.size - a - b := by rw [ByteArray.size_extract]; omega
  have z3 : (s.extract (a + b) s.size).size = s.size - a - b := by rw [ByteArray.size_extract]; omega
  have l1 := fun g w h => rd_left g (some ((s.extract a s.size).extract b (s.extract a s.size).size)) w h
  have l2 := fun g w h => rd_left g (some (s.extract (a + b) s.size)) w h
  simp only [Option.getD, z2, show ((s.size - a - b : Nat) : Int) = (s.size : Int) - a - b by omega] at l1
  simp only [Option.getD, z3, show ((s.size - a - b : Nat) : Int) = (s.size : Int) - a - b by omega] at l2
  have hcat := pieces_cat s a b hab
  have hlen : (s.extract 0 a).size + ((s.extract a s.size).extract 0 b).size ≤ s.size := by simp only [ByteArray.size_extract]; omega
  generalize (s.extract a s.size).extract 0 b = y at c2 hcat hlen
  generalize (s.extract a s.size).extract b (s.extract a s.size).size = r2 at c2 l1
  generalize s.extract a s.size = r1 at c1 c2
  generalize s.extract (a + b) s.size = r3 at c3 l2
  generalize s.extract 0 a = x at c1 hcat hlen
  have C1 := Lib.hid c1; have C2 := Lib.hid c2; have C3 := Lib.hid c3; have L1 := Lib.hid l1; have L2 := Lib.hid l2
  clear c1 c2 c3 l1 l2 z1 z2 z3
  unfold maxLen at hs
  have h1 : ¬ (s.size : Int) < (a : Int) := by omega
  have h2 : ¬ (s.size : Int) - (a : Int) < (b : Int) := by omega
  go_enter Try.func7, Try.ntmps7
  go_wp2_with fail
  refine (awake_any _).mono ?_
  rintro e w0 ⟨rfl, hb0⟩
  go_wp2_with fail
  refine (rd_read s _).mono ?_
  rintro e w1 ⟨rfl, ha1, hb1, hl1⟩
  have hB1 : Below w.heap.size w w1 := hb0.trans (hb1.mono hb0.size)
  have hg : w.heap.size ≤ w0.heap.size := hb0.size
  generalize w0.heap.size = g at ha1 hg hl1 ⊢
  have HA1 := Lib.hid ha1; clear ha1 hb0 hb1
  go_wp2_with fail
  refine (rd_read s _).mono ?_
  rintro e w2 ⟨rfl, hk, hb2, hl2⟩
  have HA2 := Lib.hid (RdAt.below HA1.out hb2 (RdAt.lt HA1.out)); clear HA1
  have hB2 : Below w.heap.size w w2 := hB1.trans (hb2.mono hB1.size)
  have hgk : w.heap.size ≤ w1.heap.size := hB1.size
  generalize w1.heap.size = k at hk hgk hl1 hl2 ⊢
  have HK2 := Lib.hid hk; clear hk hb2 hB1
  have hne : g ≠ k := by omega
  clear hl1 hl2
  go_wp2_with fail
  refine (C1.out g _ HA2.out).mono ?_
  rintro e w3 ⟨rfl, ha3, hg3⟩
  have HA3 := Lib.hid ha3; clear ha3
  have HK3 := Lib.hid (RdAt.grown HK2.out hg3 (by simp; omega))
  have hB3 : Below w.heap.size w w3 := hB2.grown hg3 hB2.size (by simp; omega)
  clear hg3 hB2
  go_wp2_with fail
  refine (C2.out g _ HA3.out).mono ?_
  rintro e w4 ⟨rfl, ha4, hg4⟩
  have HA4 := Lib.hid ha4; clear ha4
  have HK4 := Lib.hid (RdAt.grown HK3.out hg4 (by simp; omega))
  have hB4 : Below w.heap.size w w4 := hB3.grown hg4 hB3.size (by simp; omega)
  clear hg4 hB3
  go_wp2_with fail
  refine (C3.out k _ HK4.out).mono ?_
  rintro e w5 ⟨rfl, ha5, hg5⟩
  have HK5 := Lib.hid ha5; clear ha5
  have HA5 := Lib.hid (RdAt.grown HA4.out hg5 (by simp; omega))
  have hB5 : Below w.heap.size w w5 := hB4.grown hg5 hB4.size (by simp; omega)
  clear hg5 hB4
  go_wp2_with fail
  refine (L1.out g _ HA5.out).mono ?_
  rintro e w' ⟨rfl, rfl⟩
  go_wp2_with fail
  refine (L2.out k _ HK5.out).mono ?_
  rintro e w' ⟨rfl, rfl⟩
  go_wp2_with fail
  refine (L1.out g _ HA5.out).mono ?_
  rintro e w' ⟨rfl, rfl⟩
  go_wp2
  go_ret
  exact ⟨rfl, hB5⟩

theorem walk_OctetPieces (s : ByteArray) (a b : Int) (w : World) (hs : s.size ≤ maxLen) (ha : -9223372036854775808 ≤ a) (_ : a ≤ 9223372036854775807) (hb : -9223372036854775808 ≤ b) (_ : b ≤ 9223372036854775807) :
    Calls Try.prog 7 #[.string s, .int .i64 a, .int .i64 b] w fun e w' => e = .returned (.bool true) ∧ Below w.heap.size w w' := by
  by_cases h : a < 0 ∨ (0 ≤ a ∧ b < 0) ∨ (0 ≤ a ∧ 0 ≤ b ∧ (s.size : Int) < a) ∨ (0 ≤ a ∧ 0 ≤ b ∧ a ≤ (s.size : Int) ∧ (s.size : Int) - a < b)
  · exact pieces_walk_bad s a b w hs ha hb h
  · obtain ⟨m, rfl⟩ := Int.eq_ofNat_of_zero_le (show 0 ≤ a by omega)
    obtain ⟨n, rfl⟩ := Int.eq_ofNat_of_zero_le (show 0 ≤ b by omega)
    exact pieces_walk_ok s m n w hs (by omega)

end Go.Proofs.Ytfhdafpcppdjnaa
