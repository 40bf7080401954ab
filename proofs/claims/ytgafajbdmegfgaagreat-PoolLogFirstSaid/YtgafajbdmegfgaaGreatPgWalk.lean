/- The walks of package page: right, Check, Room. -/
import Derived.Test.YtgafajbdmegfgaaGreatProg
import Derived.Test.YtgafajbdmegfgaaGreatPgPlain
import Derived.WalkKit
import Derived.WalkSpells
import Derived.WalkLawsBesides
import Derived.Lib.Hide
set_option linter.unusedVariables false
set_option linter.unusedSimpArgs false
namespace Go.Proofs.YtgafajbdmegfgaaGreat
open Go.RowKit

theorem ba_empty (d : ByteArray) : d.toList.isEmpty = decide (d = ⟨#[]⟩) := by
  by_cases h : d = ⟨#[]⟩
  · subst h; simp
  · rw [decide_eq_false h]
    cases hh : d.toList.isEmpty
    · rfl
    · have h2 := str_ne h
      rw [List.isEmpty_iff.1 hh] at h2
      simp at h2
theorem idx6 (c : Nat → Ce) (j : Nat) (h : j < 6) (w : World) :
    (Instr.index 39 (.agg #[.int .i64 (c 0).st, .string (c 0).d, .int .i64 (c 1).st, .string (c 1).d, .int .i64 (c 2).st, .string (c 2).d, .int .i64 (c 3).st, .string (c 3).d, .int .i64 (c 4).st, .string (c 4).d, .int .i64 (c 5).st, .string (c 5).d]) (.int .i64 (j : Int))).run Tryz.prog w = .ok (.agg #[.int .i64 (c j).st, .string (c j).d]) w := by
  rcases six h with rfl | rfl | rfl | rfl | rfl | rfl <;> kernel_rfl
theorem right_any (c : Ce) (w : World) :
    Calls Tryz.prog 54 #[c.v] w fun e w' => e = .returned (.bool (decide c.ok)) ∧ Below w.heap.size w w' := by
  obtain ⟨st, d⟩ := c
  have e0 : st = 0 → decide (Ce.ok ⟨st, d⟩) = d.toList.isEmpty := fun h => by rw [ba_empty]; simp [Ce.ok, h]
  have e1 : st = 1 ∨ st = 2 → decide (Ce.ok ⟨st, d⟩) = decide ((d.size : Int) ≤ 34) := fun h => by rcases h with h | h <;> simp [Ce.ok, h] <;> omega
  have e2 : st ≠ 0 → st ≠ 1 → st ≠ 2 → decide (Ce.ok ⟨st, d⟩) = false := fun h0 h1 h2 => by simp [Ce.ok, h0, h1, h2]
  generalize decide (Ce.ok ⟨st, d⟩) = r at *
  have E0 := Lib.hid e0; have E1 := Lib.hid e1; have E2 := Lib.hid e2
  clear e0 e1 e2
  unfold Ce.v
  by_cases h0 : st = 0
  · subst h0
    rw [E0.out rfl]
    go_enter Tryz.func54, Tryz.ntmps54
    go_wp2
    go_ret
    exact ⟨rfl, (Below.refl _ _).alloc (Nat.le_refl _) _⟩
  · by_cases h1 : st = 1
    · rw [E1.out (.inl h1)]; subst h1
      go_enter Tryz.func54, Tryz.ntmps54
      go_wp2
      go_ret
      exact ⟨rfl, (Below.refl _ _).alloc (Nat.le_refl _) _⟩
    · by_cases h2 : st = 2
      · rw [E1.out (.inr h2)]; subst h2
        go_enter Tryz.func54, Tryz.ntmps54
        go_wp2
        go_ret
        exact ⟨rfl, (Below.refl _ _).alloc (Nat.le_refl _) _⟩
      · rw [E2.out h0 h1 h2]
        go_enter Tryz.func54, Tryz.ntmps54
        go_wp2
        go_ret
        exact ⟨rfl, (Below.refl _ _).alloc (Nat.le_refl _) _⟩
theorem check_head (p : Pg) (w : World) (h : ¬ p.head) :
    Calls Tryz.prog 31 #[p.v] w fun e w' => e = .returned (.int .i64 1) ∧ Below w.heap.size w w' := by
  obtain ⟨k, l, s, n, c⟩ := p
  unfold Pg.v Pg.cs
  unfold Pg.head at h
  simp only at h
  go_enter Tryz.func31, Tryz.ntmps31
  go_wp2_with fail
  all_goals
    go_ret
    exact ⟨rfl, (Below.refl _ _).alloc (Nat.le_refl _) _⟩
theorem check_good (p : Pg) (w : World) (h : p.head) :
    Calls Tryz.prog 31 #[p.v] w fun e w' => e = .returned (.int .i64 p.err) ∧ Below w.heap.size w w' := by
  have ho1 : (∀ i, i < 6 → (p.c i).ok) → p.err = 0 := fun hh => Pg.err_ok ⟨h, hh⟩
  have ho2 : ∀ i, i < 6 → ¬ (p.c i).ok → p.err = 1 := fun i hi hn => Pg.err_no fun hk => hn (hk.2 i hi)
  obtain ⟨k, l, s, n, c⟩ := p
  simp only at ho1 ho2
  have HO1 := Lib.hid ho1; have HO2 := Lib.hid ho2
  clear ho1 ho2
  generalize (⟨k, l, s, n, c⟩ : Pg).err = K at *
  unfold Pg.v Pg.cs
  unfold Pg.head at h
  simp only at h
  go_enter Tryz.func31, Tryz.ntmps31
  go_wp2_with fail
  have hb := (Below.refl w.heap.size w).alloc (Nat.le_refl _) (.cells #[.int .i64 k, .int .i64 l, .int .i64 s, .int .i64 n, .int .i64 (c 0).st, .string (c 0).d, .int .i64 (c 1).st, .string (c 1).d, .int .i64 (c 2).st, .string (c 2).d, .int .i64 (c 3).st, .string (c 3).d, .int .i64 (c 4).st, .string (c 4).d, .int .i64 (c 5).st, .string (c 5).d] 41)
  generalize w.alloc (.cells #[.int .i64 k, .int .i64 l, .int .i64 s, .int .i64 n, .int .i64 (c 0).st, .string (c 0).d, .int .i64 (c 1).st, .string (c 1).d, .int .i64 (c 2).st, .string (c 2).d, .int .i64 (c 3).st, .string (c 3).d, .int .i64 (c 4).st, .string (c 4).d, .int .i64 (c 5).st, .string (c 5).d] 41) = w1 at *
  go_loopw [43] (fun i wr => ∃ j : Nat, j ≤ 6 ∧ i = .int .i64 j ∧ (∀ q, q < j → (c q).ok) ∧ Below w.heap.size w wr) (fun i _ => 6 - (RowKit.intOf i).toNat)
  case atStart => exact ⟨0, by omega, rfl, (fun q hq => absurd hq (Nat.not_lt_zero _)), hb⟩
  case round =>
    clear hb
    obtain ⟨j, hj, rfl, hq, hb⟩ := hrel
    have HQ := Lib.hid hq; have HB := Lib.hid hb
    clear hq hb
    by_cases hlt : j < 6
    · have ix := fun w => idx6 c j hlt w
      have cr := fun w => right_any (c j) w
      unfold Ce.v at cr
      have CRt := Lib.hid cr
      clear cr
      go_wp2_with fail
      refine (CRt.out _).mono ?_
      rintro e w2 ⟨rfl, hb2⟩
      have b2 : Below w.heap.size w w2 := below_then (HB.out.alloc HB.out.size _) hb2 (by have := HB.out.size; simp; omega)
      have B2 := Lib.hid b2
      clear hb2 b2 ix CRt
      by_cases hok : (c j).ok
      · rw [decide_eq_true hok]
        have q2 : ∀ q, q < j + 1 → (c q).ok := fun q hq => by
          by_cases e : q = j
          · rw [e]; exact hok
          · exact HQ.out q (by omega)
        have Q2 := Lib.hid q2
        clear q2
        go_wp2
        go_roundw
        case rel => exact ⟨j + 1, by omega, by go_num, Q2.out, B2.out⟩
        case measure => simp [RowKit.intOf]; omega
      · rw [decide_eq_false hok]
        go_wp2
        go_ret
        exact ⟨by rw [HO2.out j hlt hok]; rfl, B2.out⟩
    · go_wp2
      go_ret
      exact ⟨by rw [HO1.out fun i hi => HQ.out i (by omega)]; rfl, HB.out⟩
theorem check_any (p : Pg) (w : World) :
    Calls Tryz.prog 31 #[p.v] w fun e w' => e = .returned (.int .i64 p.err) ∧ Below w.heap.size w w' := by
  by_cases h : p.head
  · exact check_good p w h
  · rw [Pg.err_no fun hk => h hk.1]
    exact check_head p w h
end Go.Proofs.YtgafajbdmegfgaaGreat
