/- The walk of the reference Right, of pages. -/
import Derived.Test.YtgafajbdmegfgaaPgWalk
set_option linter.unusedVariables false
set_option linter.unusedSimpArgs false
namespace Go.Proofs.Ytgafajbdmegfgaa
open Go.RowKit

theorem rright_head (p : Pg) (w : World) (h : ¬ p.head) :
    Calls Try.prog 36 #[p.v] w fun e w' => e = .returned (.bool false) ∧ Below w.heap.size w w' := by
  obtain ⟨k, l, s, n, c⟩ := p
  unfold Pg.v Pg.cs
  unfold Pg.head at h
  simp only at h
  go_enter Try.func36, Try.ntmps36
  go_wp2_with fail
  all_goals
    go_ret
    exact ⟨rfl, (Below.refl _ _).alloc (Nat.le_refl _) _⟩
theorem rright_good (p : Pg) (w : World) (h : p.head) :
    Calls Try.prog 36 #[p.v] w fun e w' => e = .returned (.bool (decide p.ok)) ∧ Below w.heap.size w w' := by
  have ho1 : (∀ i, i < 6 → (p.c i).ok) → decide p.ok = true := fun hh => decide_eq_true ⟨h, hh⟩
  have ho2 : ∀ i, i < 6 → ¬ (p.c i).ok → decide p.ok = false := fun i hi hn => decide_eq_false fun hk => hn (hk.2 i hi)
  obtain ⟨k, l, s, n, c⟩ := p
  simp only at ho1 ho2
  have HO1 := Lib.hid ho1; have HO2 := Lib.hid ho2
  clear ho1 ho2
  generalize decide (⟨k, l, s, n, c⟩ : Pg).ok = K at *
  unfold Pg.v Pg.cs
  unfold Pg.head at h
  simp only at h
  go_enter Try.func36, Try.ntmps36
  go_wp2_with fail
  have hb : Bk (w.alloc (.cells #[.int .i64 k, .int .i64 l, .int .i64 s, .int .i64 n, .int .i64 (c 0).st, .string (c 0).d, .int .i64 (c 1).st, .string (c 1).d, .int .i64 (c 2).st, .string (c 2).d, .int .i64 (c 3).st, .string (c 3).d, .int .i64 (c 4).st, .string (c 4).d, .int .i64 (c 5).st, .string (c 5).d] 40)) w.heap.size 40 (Pg.cs ⟨k, l, s, n, c⟩) ∧ Below w.heap.size w (w.alloc (.cells #[.int .i64 k, .int .i64 l, .int .i64 s, .int .i64 n, .int .i64 (c 0).st, .string (c 0).d, .int .i64 (c 1).st, .string (c 1).d, .int .i64 (c 2).st, .string (c 2).d, .int .i64 (c 3).st, .string (c 3).d, .int .i64 (c 4).st, .string (c 4).d, .int .i64 (c 5).st, .string (c 5).d] 40)) := ⟨Bk.new _ _ _, (Below.refl w.heap.size w).alloc (Nat.le_refl _) _⟩
  generalize w.alloc (.cells #[.int .i64 k, .int .i64 l, .int .i64 s, .int .i64 n, .int .i64 (c 0).st, .string (c 0).d, .int .i64 (c 1).st, .string (c 1).d, .int .i64 (c 2).st, .string (c 2).d, .int .i64 (c 3).st, .string (c 3).d, .int .i64 (c 4).st, .string (c 4).d, .int .i64 (c 5).st, .string (c 5).d] 40) = w1 at *
  go_loopw [3] (fun i wr => ∃ j : Nat, j ≤ 6 ∧ i = .int .i64 j ∧ (∀ q, q < j → (c q).ok) ∧ Bk wr w.heap.size 40 (Pg.cs ⟨k, l, s, n, c⟩) ∧ Below w.heap.size w wr) (fun i _ => 6 - (intOf i).toNat)
  case atStart => exact ⟨0, by omega, rfl, (fun q hq => absurd hq (Nat.not_lt_zero _)), hb.1, hb.2⟩
  case round =>
    clear hb
    obtain ⟨j, hj, rfl, hq, hk, hb⟩ := hrel
    have HQ := Lib.hid hq; have HB := Lib.hid hb; have HK := Lib.hid hk
    clear hq hb
    by_cases hlt : j < 6
    · have c0 : wr.cell? ⟨w.heap.size, 4 + j * 2, none⟩ = some (.int .i64 (c j).st) := by rw [hk.cell]; rcases six hlt with rfl | rfl | rfl | rfl | rfl | rfl <;> rfl
      have c1 : wr.cell? ⟨w.heap.size, 4 + j * 2 + 1, none⟩ = some (.string (c j).d) := by rw [hk.cell]; rcases six hlt with rfl | rfl | rfl | rfl | rfl | rfl <;> rfl
      clear hk
      have B2 := Lib.hid (fun o => HB.out.alloc HB.out.size o); have K2 := Lib.hid (fun o => HK.out.alloc o)
      go_wp2_with fail
      all_goals first
        | (go_roundw
           case rel =>
             have hok : (c j).ok := by rw [Ce.ok_iff]; omega
             exact ⟨j + 1, by omega, by go_num, fun q hq => (by
               by_cases e : q = j
               · rw [e]; exact hok
               · exact HQ.out q (by omega)), K2.out _, B2.out _⟩
           case measure => simp [intOf]; omega)
        | (go_ret
           exact ⟨by rw [HO2.out j hlt (by rw [Ce.ok_iff]; omega)]; rfl, B2.out _⟩)
    · clear hk
      go_wp2
      go_ret
      exact ⟨by rw [HO1.out fun i hi => HQ.out i (by omega)]; rfl, HB.out⟩
theorem rright_any (p : Pg) (w : World) :
    Calls Try.prog 36 #[p.v] w fun e w' => e = .returned (.bool (decide p.ok)) ∧ Below w.heap.size w w' := by
  by_cases h : p.head
  · exact rright_good p w h
  · rw [decide_eq_false fun hk => h hk.1]
    exact rright_head p w h
end Go.Proofs.Ytgafajbdmegfgaa
