/- Nodes, plain: cells that may stand in a node say a key; keys rise. -/
import Derived.Test.YtelbioooggnbiaaGreatNodCheckPlain
set_option linter.unusedVariables false
set_option linter.unusedSimpArgs false
namespace Go.Proofs.YtelbioooggnbiaaGreat
open Go.RowKit

theorem leafOk_iff (c : Ce) (h : c.says) : leafCellOk c ↔ c.key.size ≠ 0 ∧ c.rst.size ≤ 20 ∧ c.st ≤ 2 ∧ 1 ≤ c.st := by
  unfold leafCellOk
  constructor
  · rintro ⟨_, h2, h3, h4⟩; exact ⟨h2, h3, by omega, by omega⟩
  · rintro ⟨h2, h3, h4, h5⟩; exact ⟨h, h2, h3, by omega⟩
theorem cellOk_says (p : Pg) (q : Nat) (h : cellOk p q) : (p.c q).says := by
  unfold cellOk at h
  split at h
  · exact h.1
  · by_cases k : (p.c q).says
    · exact k
    · exact absurd (child_not (p.c q) fun k2 => k k2.1) h.2.1
theorem sorted_le (p : Pg) (h : nodeOk p) : ∀ j i, i < j → j < cnt p.c → slt (p.c i).key (p.c j).key = true
  | 0, i, hi, _ => absurd hi (Nat.not_lt_zero _)
  | j + 1, i, hi, hj => by
    have hn := cnt_le p.c
    have h1 := ((okAt_in hj).1 (h.2 (j + 1) (by omega))).2 (by omega)
    rw [show j + 1 - 1 = j by omega] at h1
    by_cases e : i = j
    · rw [e]; exact h1
    · exact slt_trans (sorted_le p h j i (by omega) (by omega)) h1
theorem finds_facts (p : Pg) (key : ByteArray) (h : nodeOk p) (i : Nat) (hi : i < cnt p.c) :
    (p.c i).says ∧ slt (p.c i).key key = decide (i < fAt p key) ∧ seq (p.c i).key key = (fThere p key && decide (i = fAt p key)) := by
  have hn := cnt_le p.c
  have hs : (p.c i).says := cellOk_says p i ((okAt_in hi).1 (h.2 i (by omega))).1
  refine ⟨hs, ?_⟩
  rcases Nat.lt_trichotomy i (fAt p key) with hl | he | hg
  · have h1 := fnd_below (fun j => slt (p.c j).key key) (cnt p.c) i hl
    refine ⟨by rw [decide_eq_true hl]; exact h1, ?_⟩
    rw [decide_eq_false (show ¬ i = fAt p key by omega), Bool.and_false]
    cases hq : seq (p.c i).key key
    · rfl
    · have e := (seq_iff _ _).1 hq
      have h2 : slt (p.c i).key key = true := h1
      rw [e, slt_irrefl] at h2
      cases h2
  · have h1 : slt (p.c i).key key = false := by
      have h1 : slt (p.c (fAt p key)).key key = false := fnd_at (fun j => slt (p.c j).key key) (cnt p.c) (show fAt p key < cnt p.c by omega)
      rw [← he] at h1
      exact h1
    refine ⟨by rw [decide_eq_false (show ¬ i < fAt p key by omega)]; exact h1, ?_⟩
    rw [decide_eq_true he, Bool.and_true]
    unfold fThere
    rw [← he, decide_eq_true hi, Bool.true_and]
  · have h1 : slt (p.c (fAt p key)).key key = false := fnd_at (fun j => slt (p.c j).key key) (cnt p.c) (show fAt p key < cnt p.c by omega)
    have h2 := sorted_le p h i (fAt p key) hg hi
    have h3 : slt (p.c i).key key = false := by
      cases hq : slt (p.c i).key key
      · rfl
      · rw [slt_trans h2 hq] at h1; cases h1
    refine ⟨by rw [decide_eq_false (show ¬ i < fAt p key by omega)]; exact h3, ?_⟩
    rw [decide_eq_false (show ¬ i = fAt p key by omega), Bool.and_false]
    cases hq : seq (p.c i).key key
    · rfl
    · have e := (seq_iff _ _).1 hq
      rw [e, h1] at h2
      cases h2
end Go.Proofs.YtelbioooggnbiaaGreat
