/- Plain facts: what is owned after a store was forgotten; a sound directory stays sound. -/
import Derived.Test.YtdhfcjplnbnkdaaSpcForget
set_option linter.unusedVariables false
set_option linter.unusedSimpArgs false
namespace Go.Proofs.Ytdhfcjplnbnkdaa
open Go.RowKit

theorem fgt_own {m : Pg} {n : Nat} (h : MapOk m n) (pg : Nat → Pg) (s : Int) (k : Nat) (hk : k < 1632) : ∀ i, i ≤ 1632 → ownB (fgt pg s m i) k = (ownB m k && !(decide (2 ≤ k) && decide (k < i) && decide ((pg k).s = s)))
  | 0, _ => by simp [fgt]
  | i + 1, hi => by
    have ih := fgt_own h pg s k hk i (by omega)
    unfold fgt
    by_cases c : 2 ≤ i ∧ ownB (fgt pg s m i) i = true ∧ (pg i).s = s
    · rw [if_pos c, mrk_own (fgt_ok h pg s i).ch _ _ _ (by omega)]
      by_cases e : k = i
      · subst e
        rw [if_pos rfl]
        simp [c.1, c.2.2]
      · rw [if_neg e, ih]
        by_cases hki : k < i
        · simp [hki, show k < i + 1 by omega]
        · simp [hki, show ¬ k < i + 1 by omega]
    · rw [if_neg c, ih]
      by_cases e : k = i
      · subst e
        rw [ih] at c
        by_cases h2 : 2 ≤ k
        · by_cases hs : (pg k).s = s
          · have : ownB m k = false := by
              cases ho : ownB m k with
              | false => rfl
              | true => exact absurd ⟨h2, by simp [ho], hs⟩ c
            simp [this]
          · simp [hs]
        · simp [h2]
      · by_cases hki : k < i
        · simp [hki, show k < i + 1 by omega]
        · simp [hki, show ¬ k < i + 1 by omega]
theorem DirOk.set {p : Pg} {kd rt : Nat → Nat} (h : DirOk p kd rt) (j : Nat) (hj : j < 6) (hs : (p.c j).st ≠ 0) {st : Int} (h1 : st = 1 ∨ st = 2) : DirOk (setSt p j st) kd rt := by
  refine ⟨h.k, setSt_ok h.ok j hs hj h1, fun i hi hne => ?_⟩
  unfold setSt putC at hne ⊢
  dsimp only at hne ⊢
  by_cases e : i = j
  · subst e
    rw [if_pos rfl]
    exact h.d i hi hs
  · rw [if_neg e] at hne ⊢
    exact h.d i hi hne
theorem DirOk.made {p : Pg} {kd rt : Nat → Nat} (h : DirOk p kd rt) (j k r : Nat) (hk : k < 256) (hr : r < 1024) : DirOk (putC p j ⟨1, stoD k r⟩) (fun i => if i = j then k else kd i) (fun i => if i = j then r else rt i) := by
  refine ⟨h.k, putC_ok h.ok j _ (by rw [stoD_size]; omega), fun i hi hne => ?_⟩
  unfold putC at hne ⊢
  dsimp only at hne ⊢
  by_cases e : i = j
  · rw [if_pos e, if_pos e, if_pos e]
    exact ⟨rfl, hk, hr⟩
  · rw [if_neg e] at hne
    rw [if_neg e, if_neg e, if_neg e]
    exact h.d i hi hne
theorem DirOk.gone {p : Pg} {kd rt : Nat → Nat} (h : DirOk p kd rt) (j : Nat) : DirOk (putC p j ⟨0, ⟨#[]⟩⟩) kd rt := by
  refine ⟨h.k, ⟨h.ok.1, fun i hi => ?_⟩, fun i hi hne => ?_⟩
  · show (if i = j then (⟨0, ⟨#[]⟩⟩ : Ce) else p.c i).ok
    by_cases e : i = j
    · rw [if_pos e]; exact .inl ⟨rfl, rfl⟩
    · rw [if_neg e]; exact h.ok.2 i hi
  · unfold putC at hne ⊢
    dsimp only at hne ⊢
    by_cases e : i = j
    · rw [if_pos e] at hne; exact absurd rfl hne
    · rw [if_neg e] at hne ⊢; exact h.d i hi hne
theorem DirOk.none : DirOk dir0 (fun _ => 0) (fun _ => 0) := ⟨rfl, dir0_ok, fun i hi h => absurd rfl h⟩
end Go.Proofs.Ytdhfcjplnbnkdaa
