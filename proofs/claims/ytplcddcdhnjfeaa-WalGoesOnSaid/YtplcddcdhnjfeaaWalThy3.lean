/- What lies on a device through writes, barriers, crashes; what the sectors of a ring hold of a stream: plain. -/
import Derived.Test.YtplcddcdhnjfeaaWalThy2
import Derived.Test.YtplcddcdhnjfeaaDskWalk5
set_option linter.unusedVariables false
set_option linter.unusedSimpArgs false
namespace Go.Proofs.Ytplcddcdhnjfeaa
open Go.RowKit

/-- Each sector's firm bytes, and each pending write, are such. -/
structure Dal (Q : Nat → ByteArray → Prop) (S : Dsk) : Prop where
  firm : ∀ j, j < S.firm.length → Q j (S.firm.getD j ⟨#[]⟩)
  pend : ∀ p ∈ S.pend, Q p.1 p.2
  lv : S.now = apply S.firm S.pend
theorem getD_set (l : List ByteArray) (i j : Nat) (v : ByteArray) (hj : j < l.length) : (l.set i v).getD j ⟨#[]⟩ = if i = j then v else l.getD j ⟨#[]⟩ := by
  rw [List.getD_eq_getElem?_getD, List.getD_eq_getElem?_getD, List.getElem?_set]
  by_cases h : i = j
  · subst h; rw [if_pos rfl, if_pos hj, if_pos rfl]; rfl
  · rw [if_neg h, if_neg h]
theorem apply_all {Q : Nat → ByteArray → Prop} : ∀ (ps : List (Nat × ByteArray)) (l : List ByteArray), (∀ j, j < l.length → Q j (l.getD j ⟨#[]⟩)) → (∀ p ∈ ps, Q p.1 p.2) → ∀ j, j < l.length → Q j ((apply l ps).getD j ⟨#[]⟩)
  | [], l, h, _, j, hj => h j hj
  | p :: ps, l, h, hp, j, hj => by
    show Q j ((apply (l.set p.1 p.2) ps).getD j ⟨#[]⟩)
    refine apply_all ps _ (fun i hi => ?_) (fun q hq => hp q (List.mem_cons_of_mem _ hq)) j (by rw [List.length_set]; exact hj)
    rw [List.length_set] at hi
    rw [getD_set _ _ _ _ hi]
    by_cases e : p.1 = i
    · rw [if_pos e, ← e]; exact hp p List.mem_cons_self
    · rw [if_neg e]; exact h i hi
theorem apply_snoc (l : List ByteArray) (ps : List (Nat × ByteArray)) (p : Nat × ByteArray) : apply l (ps ++ [p]) = (apply l ps).set p.1 p.2 := by unfold apply; rw [List.foldl_append]; rfl
namespace Dal
variable {Q R : Nat → ByteArray → Prop} {S : Dsk}
theorem mono (h : Dal Q S) (k : ∀ j v, Q j v → R j v) : Dal R S := ⟨fun j hj => k _ _ (h.firm j hj), fun p hp => k _ _ (h.pend p hp), h.lv⟩
theorem len (h : Dal Q S) : S.now.length = S.firm.length := by rw [h.lv, apply_length]
theorem now (h : Dal Q S) (j : Nat) (hj : j < S.firm.length) : Q j (S.now.getD j ⟨#[]⟩) := by rw [h.lv]; exact apply_all _ _ h.firm h.pend j hj
theorem start {l : List ByteArray} (h : ∀ j, j < l.length → Q j (l.getD j ⟨#[]⟩)) : Dal Q (.start l) := ⟨h, fun p hp => (List.not_mem_nil hp).elim, rfl⟩
theorem down (h : Dal Q S) : Dal Q { S with down := true } := ⟨h.firm, h.pend, h.lv⟩
theorem write (h : Dal Q S) (i : Nat) (d : ByteArray) (hq : Q i d) : Dal Q (S.write (i : Int) d).1 := by
  unfold Dsk.write
  split
  · exact h
  split
  · split
    · exact h.down
    · refine ⟨h.firm, fun p hp => ?_, ?_⟩
      · rcases List.mem_append.1 hp with hp | hp
        · exact h.pend p hp
        · rw [List.mem_singleton.1 hp, Int.toNat_natCast]; exact hq
      · show S.now.set _ d = apply S.firm (S.pend ++ [(_, d)])
        rw [apply_snoc, h.lv]
  · exact h
theorem barrier (h : Dal Q S) : Dal Q S.barrier.1 := by
  unfold Dsk.barrier
  split
  · exact h
  split
  · exact h.down
  · exact ⟨fun j hj => by
      have hl : (apply S.firm S.pend).length = S.firm.length := apply_length _ _
      exact apply_all _ _ h.firm h.pend j (by rw [← hl]; exact hj), fun p hp => (List.not_mem_nil hp).elim, h.lv⟩
/-- Behind a barrier what was there at the last is firm. -/
theorem synced (h : Dal Q S) (h0 : S.barrier.2 = 0) (k : ∀ j, j < S.firm.length → R j (S.now.getD j ⟨#[]⟩)) : Dal R S.barrier.1 := by
  unfold Dsk.barrier at h0 ⊢
  split at h0
  · cases h0
  rename_i a
  rw [if_neg a]
  split at h0
  · cases h0
  rename_i b
  rw [if_neg b]
  refine ⟨fun j hj => ?_, fun p hp => (List.not_mem_nil hp).elim, h.lv⟩
  have hl : (apply S.firm S.pend).length = S.firm.length := apply_length _ _
  have := k j (by rw [← hl]; exact hj)
  rw [h.lv] at this
  exact this
theorem keep (h : Dal Q S) (m : Nat) (kb : Nat → Bool) : ∀ k, k ≤ S.pend.length → ∀ j, j < S.firm.length → Q j ((keepTo S.firm S.pend m kb k).getD j ⟨#[]⟩)
  | 0, _, j, hj => h.firm j hj
  | k + 1, hk, j, hj => by
    have ih := keep h m kb k (by omega) j hj
    have hl := keepTo_length S.firm S.pend m kb k
    simp only [keepTo]
    split
    · rw [getD_set _ _ _ _ (by omega)]
      have hp : S.pend.getD k (0, ⟨#[]⟩) ∈ S.pend := by
        rw [List.getD_eq_getElem?_getD, List.getElem?_eq_getElem (by omega : k < S.pend.length)]
        exact List.getElem_mem _
      by_cases e : (S.pend.getD k (0, ⟨#[]⟩)).1 = j
      · rw [if_pos e, ← e]; exact h.pend _ hp
      · rw [if_neg e]; exact ih
    · exact ih
theorem crash (h : Dal Q S) (m : Nat) (kb : Nat → Bool) : Dal Q (S.crash m kb) :=
  start fun j hj => h.keep m kb _ (Nat.le_refl _) j (by rw [keepTo_length] at hj; exact hj)
end Dal
theorem write_ok {S : Dsk} {i : Nat} {d : ByteArray} (h : (S.write (i : Int) d).2 = 0) : (S.write (i : Int) d).1.firm = S.firm ∧ (S.write (i : Int) d).1.now = S.now.set i d := by
  unfold Dsk.write at h ⊢
  split at h
  · cases h
  rename_i a
  rw [if_neg a]
  split at h
  · rename_i b
    rw [if_pos b]
    split at h
    · cases h
    · rename_i c
      rw [if_neg c, Int.toNat_natCast]
      exact ⟨rfl, rfl⟩
  · cases h
namespace Lg
variable {Q R : Nat → ByteArray → Prop} {S : Dsk}
theorem wr_al (L : Lg) : ∀ (m k : Nat) (S : Dsk), Dal Q S → (∀ i, k ≤ i → i < k + m → Q (L.first + i % L.n) (L.sec i)) → Dal Q (L.wr m k S).1
  | 0, k, S, h, hq => h
  | m + 1, k, S, h, hq => by
    have a := h.write (L.first + k % L.n) (L.sec k) (hq k (Nat.le_refl _) (by omega))
    simp only [Lg.wr]
    split
    · exact wr_al L m (k + 1) _ a fun i h1 h2 => hq i (by omega) (by omega)
    · exact a
theorem wr_now (L : Lg) : ∀ (m k : Nat) (S : Dsk), Dal Q S → (∀ i, k ≤ i → i < k + m → Q (L.first + i % L.n) (L.sec i)) → (∀ i, k ≤ i → i < k + m → R (L.first + i % L.n) (L.sec i)) → (L.wr m k S).2 = 0 →
    (L.wr m k S).1.firm.length = S.firm.length ∧ ∀ j, j < S.firm.length → (R j (S.now.getD j ⟨#[]⟩) ∨ ∃ i, k ≤ i ∧ i < k + m ∧ j = L.first + i % L.n) → R j ((L.wr m k S).1.now.getD j ⟨#[]⟩)
  | 0, k, S, h, hq, hr, h0 => ⟨rfl, fun j hj hc => by
    rcases hc with hc | ⟨i, h1, h2, h3⟩
    · exact hc
    · omega⟩
  | m + 1, k, S, h, hq, hr, h0 => by
    have a := h.write (L.first + k % L.n) (L.sec k) (hq k (Nat.le_refl _) (by omega))
    simp only [Lg.wr] at h0 ⊢
    split at h0
    · rename_i c
      rw [if_pos c]
      obtain ⟨e1, e2⟩ := write_ok c
      obtain ⟨i1, i2⟩ := wr_now L m (k + 1) _ a (fun i h1 h2 => hq i (by omega) (by omega)) (fun i h1 h2 => hr i (by omega) (by omega)) h0
      rw [e1] at i1 i2
      refine ⟨i1, fun j hj hc => i2 j hj ?_⟩
      rw [e2, getD_set _ _ _ _ (by rw [h.len]; exact hj)]
      by_cases e : L.first + k % L.n = j
      · rw [if_pos e]; left; rw [← e]; exact hr k (Nat.le_refl _) (by omega)
      · rw [if_neg e]
        rcases hc with hc | ⟨i, h1, h2, h3⟩
        · exact .inl hc
        · refine .inr ⟨i, ?_, by omega, h3⟩
          rcases Nat.eq_or_lt_of_le h1 with h1 | h1
          · subst h1; exact absurd h3.symm e
          · exact h1
    · rename_i c
      exact absurd h0 c
theorem wipe_al (L : Lg) : ∀ (m i : Nat) (S : Dsk), Dal Q S → (∀ j, i ≤ j → j < i + m → Q (L.first + j) (L.want j)) → Dal Q (L.wipeFrom m i S).1
  | 0, i, S, h, hq => h.barrier
  | m + 1, i, S, h, hq => by
    have a := h.write (L.first + i) (L.want i) (hq i (Nat.le_refl _) (by omega))
    simp only [Lg.wipeFrom]
    split
    · exact wipe_al L m (i + 1) _ h fun j h1 h2 => hq j (by omega) (by omega)
    split
    · exact wipe_al L m (i + 1) _ a fun j h1 h2 => hq j (by omega) (by omega)
    · exact a
/-- A ring that was wiped holds what it should; the rest is as it was. -/
theorem wipe_now (L : Lg) : ∀ (m i : Nat) (S : Dsk), Dal Q S → (∀ j, i ≤ j → j < i + m → Q (L.first + j) (L.want j)) → (∀ j, i ≤ j → j < i + m → R (L.first + j) (L.want j)) → (∀ j, j < S.firm.length → R j (S.now.getD j ⟨#[]⟩) ∨ L.first + i ≤ j ∧ j < L.first + (i + m)) →
    (L.wipeFrom m i S).2 = 0 → Dal R (L.wipeFrom m i S).1
  | 0, i, S, h, hq, hr, hn, h0 => h.synced h0 fun j hj => by
    rcases hn j hj with k | ⟨k1, k2⟩
    · exact k
    · omega
  | m + 1, i, S, h, hq, hr, hn, h0 => by
    have a := h.write (L.first + i) (L.want i) (hq i (Nat.le_refl _) (by omega))
    simp only [Lg.wipeFrom] at h0 ⊢
    split at h0
    · rename_i c
      rw [if_pos c]
      refine wipe_now L m (i + 1) _ h (fun j h1 h2 => hq j (by omega) (by omega)) (fun j h1 h2 => hr j (by omega) (by omega)) (fun j hj => ?_) h0
      by_cases e : L.first + i = j
      · subst e; left; rw [c]; exact hr i (Nat.le_refl _) (by omega)
      · rcases hn j hj with k | k
        · exact .inl k
        · right; omega
    · rename_i c
      rw [if_neg c]
      split at h0
      · rename_i d
        rw [if_pos d]
        obtain ⟨e1, e2⟩ := write_ok d
        refine wipe_now L m (i + 1) _ a (fun j h1 h2 => hq j (by omega) (by omega)) (fun j h1 h2 => hr j (by omega) (by omega)) (fun j hj => ?_) h0
        rw [e1] at hj
        rw [e2, getD_set _ _ _ _ (by rw [h.len]; exact hj)]
        by_cases e : L.first + i = j
        · rw [if_pos e]; left; rw [← e]; exact hr i (Nat.le_refl _) (by omega)
        · rw [if_neg e]
          rcases hn j hj with k | k
          · exact .inl k
          · right; omega
      · rename_i d
        exact absurd h0 d
end Lg
end Go.Proofs.Ytplcddcdhnjfeaa
