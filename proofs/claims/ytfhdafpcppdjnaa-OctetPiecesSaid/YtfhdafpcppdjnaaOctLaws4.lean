/- The walk of OctetPieces. -/
import Derived.Test.YtfhdafpcppdjnaaOctLaws1
import Derived.Test.YtfhdafpcppdjnaaOctRd2
set_option linter.unusedVariables false
set_option linter.unusedSimpArgs false
namespace Go.Proofs.Ytfhdafpcppdjnaa
open Go.RowKit

theorem pieces_bad (s : ByteArray) (a b : Int) (h : a < 0 ∨ b < 0 ∨ (s.size : Int) < a ∨ (s.size : Int) - a < b) :
    (Oct.rbytes (Oct.rbytes (some s) a).2 b).2 = none ∧ (Oct.rbytes (some s) a).1.size + (Oct.rbytes (Oct.rbytes (some s) a).2 b).1.size ≤ s.size := by
  by_cases h1 : a < 0 ∨ (s.size : Int) < a
  · have e : Oct.rbytes (some s) a = (⟨#[]⟩, none) := by simp only [Oct.rbytes]; rw [if_pos h1]
    rw [e]
    exact ⟨rfl, Nat.zero_le _⟩
  · have e : Oct.rbytes (some s) a = (s.extract 0 a.toNat, some (s.extract a.toNat s.size)) := by simp only [Oct.rbytes]; rw [if_neg h1]
    have h2 : b < 0 ∨ (((s.extract a.toNat s.size).size : Nat) : Int) < b := by
      rw [ByteArray.size_extract]; omega
    rw [e]
    simp only
    have e2 : Oct.rbytes (some (s.extract a.toNat s.size)) b = (⟨#[]⟩, none) := by simp only [Oct.rbytes]; rw [if_pos h2]
    rw [e2]
    refine ⟨rfl, ?_⟩
    show (s.extract 0 a.toNat).size + 0 ≤ s.size
    rw [ByteArray.size_extract]; omega

set_option maxHeartbeats 1000000 in
theorem pieces_walk_bad (s : ByteArray) (a b : Int) (w : World) (hs : s.size ≤ maxLen) (ha : -9223372036854775808 ≤ a) (hb : -9223372036854775808 ≤ b)
    (h : a < 0 ∨ (0 ≤ a ∧ b < 0) ∨ (0 ≤ a ∧ 0 ≤ b ∧ (s.size : Int) < a) ∨ (0 ≤ a ∧ 0 ≤ b ∧ a ≤ (s.size : Int) ∧ (s.size : Int) - a < b)) :
    Calls Try.prog 7 #[.string s, .int .i64 a, .int .i64 b] w fun e w' => e = .returned (.bool true) ∧ Below w.heap.size w w' := by
  have hp := pieces_bad s a b (by omega)
  have c1 := fun g w h => rd_bytes g a (some s) w h hs
  have c2 := fun g w h => rd_bytes g b (Oct.rbytes (some s) a).2 w h (Nat.le_trans (rbytes_size (some s) a) hs)
  generalize Oct.rbytes (some s) a = p at c1 c2 hp
  obtain ⟨x, st1⟩ := p
  simp only at c1 c2 hp
  generalize Oct.rbytes st1 b = q at c2 hp
  obtain ⟨y, st2⟩ := q
  simp only at c2 hp
  obtain ⟨rfl, hxy⟩ := hp
  have C1 := Lib.hid c1; have C2 := Lib.hid c2; clear c1 c2
  unfold maxLen at hs
  have Ha := Lib.hid ha; have Hb := Lib.hid hb; clear ha hb
  have hxy1 : (x.size : Int) + (y.size : Int) ≤ (s.size : Int) := by omega
  rcases h with h | ⟨h', h⟩ | ⟨h', h'', h⟩ | ⟨h', h'', h''', h⟩
  all_goals
    go_enter Try.func7, Try.ntmps7
    go_wp2_with fail
    refine (awake_any _).mono ?_
    rintro e w0 ⟨rfl, hb0⟩
    go_wp2_with fail
    refine (rd_read s _).mono ?_
    rintro e w1 ⟨rfl, ha1, hb1, hl1⟩
    have HA1 := Lib.hid ha1; clear ha1
    have hB1 : Below w.heap.size w w1 := hb0.trans (hb1.mono hb0.size)
    have hg : w.heap.size ≤ w0.heap.size := hb0.size
    generalize w0.heap.size = g at HA1 hg ⊢
    clear hb0 hb1 hl1
    go_wp2_with fail
    refine (C1.out g _ HA1.out).mono ?_
    rintro e w2 ⟨rfl, ha2, hg2⟩
    have HA2 := Lib.hid ha2; clear ha2
    have hB2 : Below w.heap.size w w2 := hB1.grown hg2 hB1.size (by simp; omega)
    clear hg2 hB1
    go_wp2_with fail
    refine (C2.out g _ HA2.out).mono ?_
    rintro e w3 ⟨rfl, ha3, hg3⟩
    have HA3 := Lib.hid ha3; clear ha3
    have hB3 : Below w.heap.size w w3 := hB2.grown hg3 hB2.size (by simp; omega)
    clear hg3 hB2
    go_wp2_with fail
    refine (rd_isbad g none _ HA3.out).mono ?_
    rintro e w' ⟨rfl, rfl⟩
    go_wp2_with fail
    refine (rd_left g none _ HA3.out).mono ?_
    rintro e w' ⟨rfl, rfl⟩
    go_wp2_with fail
    refine (rd_text g none _ HA3.out (Nat.zero_le _)).mono ?_
    rintro e w4 ⟨rfl, ha4, hg4⟩
    have HA4 := Lib.hid ha4; clear ha4
    have hB4 : Below w.heap.size w w4 := hB3.grown hg4 hB3.size (by simp; omega)
    clear hg4 hB3
    simp only [show (Oct.rtext none).1 = ⟨#[]⟩ from rfl]
    go_wp2_with fail
    refine (rd_num g 1 none _ HA4.out (Nat.zero_le _)).mono ?_
    rintro e w5 ⟨rfl, ha5, hg5⟩
    have hB5 : Below w.heap.size w w5 := hB4.grown hg5 hB4.size (by simp; omega)
    clear hg5 hB4 ha5
    simp only [show (Oct.rnum none 1).1 = 0 from rfl]
    go_wp2
    go_ret
    exact ⟨rfl, hB5⟩

end Go.Proofs.Ytfhdafpcppdjnaa
