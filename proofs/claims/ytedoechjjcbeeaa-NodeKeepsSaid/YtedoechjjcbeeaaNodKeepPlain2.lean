/- The halves of a node are nodes. -/
import Derived.Test.YtedoechjjcbeeaaNodKeepPlain
import Derived.Test.YtedoechjjcbeeaaNodWays
set_option linter.unusedVariables false
set_option linter.unusedSimpArgs false
namespace Go.Proofs.Ytedoechjjcbeeaa
open Go.RowKit

theorem empty_lt (k : ByteArray) (h : k.size ≠ 0) : slt ⟨#[]⟩ k = true := by
  unfold slt
  rw [ByteArray.toList_eq, ByteArray.toList_eq]
  cases hq : k.data.toList with
  | nil => exact absurd (by have : k.data.toList.length = 0 := by rw [hq]; rfl
                            simpa using this) h
  | cons a b => rfl
theorem half_facts (p : Pg) (h : 2 ≤ cnt p.c) : 1 ≤ halfOf p ∧ halfOf p < cnt p.c ∧ cnt p.c - halfOf p ≤ halfOf p ∧ halfOf p ≤ 3 := by
  have := cnt_le p.c
  unfold halfOf
  omega
theorem low_c (p : Pg) (q : Nat) : (lowP p).c q = if q < halfOf p then p.c q else czero := by
  have : (lowP p).c q = if 0 ≤ q ∧ q < 0 + halfOf p then p.c (0 + (q - 0)) else czero := rfl
  rw [this]
  by_cases h : q < halfOf p
  · rw [if_pos (by omega), if_pos h]; congr 1; omega
  · rw [if_neg (by omega), if_neg h]
theorem high0_c (p : Pg) (q : Nat) : (high0 p).c q = if q < cnt p.c - halfOf p then p.c (halfOf p + q) else czero := by
  have : (high0 p).c q = if 0 ≤ q ∧ q < 0 + (cnt p.c - halfOf p) then p.c (halfOf p + (q - 0)) else czero := rfl
  rw [this]
  by_cases h : q < cnt p.c - halfOf p
  · rw [if_pos (by omega), if_pos h]; congr 1
  · rw [if_neg (by omega), if_neg h]
theorem high_c (p : Pg) (q : Nat) (hq : q ≠ 0 ∨ p.l = 0) : (highP p).c q = (high0 p).c q := by
  unfold highP
  split
  · rfl
  · rename_i hl
    rcases hq with hq | hq
    · show (if q = 0 then _ else (high0 p).c q) = _
      rw [if_neg hq]
    · exact absurd hq hl
theorem high_c0 (p : Pg) (hl : p.l ≠ 0) : (highP p).c 0 = ⟨(p.c (halfOf p)).st, dat ⟨#[]⟩ (p.c (halfOf p)).rst⟩ := by
  unfold highP
  rw [if_neg hl]
  rfl
theorem high_l (p : Pg) : (highP p).l = p.l ∧ (highP p).k = p.k := by unfold highP; split <;> exact ⟨rfl, rfl⟩
/-- The first cell of the upper half: its key. -/
theorem high_first (p : Pg) (h : nodeOk p) (h2 : 2 ≤ cnt p.c) (hl : p.l ≠ 0) :
    Ce.says ⟨(p.c (halfOf p)).st, dat ⟨#[]⟩ (p.c (halfOf p)).rst⟩ ∧ Ce.key ⟨(p.c (halfOf p)).st, dat ⟨#[]⟩ (p.c (halfOf p)).rst⟩ = ⟨#[]⟩ ∧ Ce.rst ⟨(p.c (halfOf p)).st, dat ⟨#[]⟩ (p.c (halfOf p)).rst⟩ = (p.c (halfOf p)).rst :=
  ce_says _ _ _ (cell_st h _ (half_facts p h2).2.1) (by decide)
theorem split_node (p : Pg) (h : nodeOk p) (h2 : 2 ≤ cnt p.c) :
    (nodeE (lowP p) = 0 ∧ cnt (lowP p).c = halfOf p) ∧ (nodeE (highP p) = 0 ∧ cnt (highP p).c = cnt p.c - halfOf p) := by
  have hn := cnt_le p.c
  obtain ⟨f1, f2, f3, f4⟩ := half_facts p h2
  have hcell := fun q => node_cell h q
  have hfree := fun q => node_free h q
  have hsort := fun i j => sorted_lt p h i j
  have hp := h.1
  have LC := low_c p; have HC := high0_c p; have HCC := high_c p; have HC0 := high_c0 p
  have HF := high_first p h h2
  have HL := high_l p
  generalize halfOf p = f at *
  refine ⟨mk_node (lowP p) f (by omega) hp.1 hp.2.1 (fun _ => by omega) (fun q hq => ?_) (fun q a b => ?_) (fun q hq => ?_),
    mk_node (highP p) (cnt p.c - f) (by omega) (by rw [HL.2]; exact hp.1) (by rw [HL.1]; exact hp.2.1) (fun _ => by omega) (fun q hq => ?_) (fun q a b => ?_) (fun q hq => ?_)⟩
  · have := hcell q (by omega)
    unfold cellOk at this ⊢
    rw [LC q, if_pos hq]
    exact this
  · rw [LC q, if_neg (by omega)]; exact czero_free
  · rw [LC q, LC (q + 1), if_pos (by omega), if_pos hq]; exact hsort _ _ (by omega) (by omega)
  · have := hcell (f + q) (by omega)
    unfold cellOk at this ⊢
    rw [HL.1]
    by_cases hl : p.l = 0
    · rw [if_pos hl] at this ⊢
      rw [HCC q (.inr hl), HC q, if_pos hq]
      exact this
    · rw [if_neg hl] at this ⊢
      by_cases h0 : q = 0
      · subst h0
        obtain ⟨a1, a2, a3⟩ := HF hl
        rw [HC0 hl]
        simp only [Nat.add_zero] at this
        have hch : (p.c f).says ∧ (p.c f).rst.size = 4 ∧ 1 ≤ Oct.sval (p.c f).rst ∧ Oct.sval (p.c f).rst < 1024 := by
          by_cases k : (p.c f).says ∧ (p.c f).rst.size = 4 ∧ 1 ≤ Oct.sval (p.c f).rst ∧ Oct.sval (p.c f).rst < 1024
          · exact k
          · exact absurd (child_not _ k) this.2.1
        refine ⟨this.1, ?_, ?_⟩
        · rw [child_said _ ⟨a1, by rw [a3]; exact hch.2.1, by rw [a3]; exact hch.2.2.1, by rw [a3]; exact hch.2.2.2⟩, a3]
          have := hch.2.2.1; omega
        · rw [a2]; exact ⟨fun _ => rfl, fun _ => rfl⟩
      · rw [HCC q (.inl h0), HC q, if_pos hq]
        exact ⟨this.1, this.2.1, ⟨fun k => by have := this.2.2.1 k; omega, fun k => absurd k h0⟩⟩
  · rw [HCC q (.inl (by omega)), HC q, if_neg (by omega)]; exact czero_free
  · rw [HCC (q + 1) (.inl (by omega)), HC (q + 1), if_pos hq]
    by_cases h0 : q = 0
    · by_cases hl : p.l = 0
      · rw [HCC q (.inr hl), HC q, if_pos (by omega)]; exact hsort _ _ (by omega) (by omega)
      · subst h0
        rw [HC0 hl, (HF hl).2.1]
        refine empty_lt _ fun k => ?_
        have := hcell (f + (0 + 1)) (by omega)
        unfold cellOk at this
        rw [if_neg hl] at this
        have := this.2.2.1 k
        omega
    · rw [HCC q (.inl h0), HC q, if_pos (by omega)]; exact hsort _ _ (by omega) (by omega)
/-- Each cell of a node, as its half has it. -/
theorem split_cells (p : Pg) (h : nodeOk p) (h2 : 2 ≤ cnt p.c) (k : Nat) (hk : k < cnt p.c) :
    slt (p.c k).key (sepOf p) = decide (k < halfOf p) ∧
    (k < halfOf p → (lowP p).c k = p.c k) ∧
    (¬ k < halfOf p → ((highP p).c (k - halfOf p)).rst = (p.c k).rst ∧ ((highP p).c (k - halfOf p)).st = (p.c k).st) := by
  obtain ⟨f1, f2, f3, f4⟩ := half_facts p h2
  have hsort := fun i j => sorted_lt p h i j
  have LC := low_c p; have HC := high0_c p; have HCC := high_c p; have HC0 := high_c0 p
  have HF := high_first p h h2
  unfold sepOf
  generalize halfOf p = f at *
  refine ⟨?_, fun hlt => by rw [LC k, if_pos hlt], fun hge => ?_⟩
  · rcases Nat.lt_trichotomy k f with a | a | a
    · rw [decide_eq_true a]; exact hsort k f a f2
    · rw [a, decide_eq_false (by omega)]; exact slt_irrefl _
    · rw [decide_eq_false (by omega)]; exact slt_asymm (hsort f k a hk)
  · by_cases h0 : k = f
    · subst h0
      rw [Nat.sub_self]
      by_cases hl : p.l = 0
      · rw [HCC 0 (.inr hl), HC 0, if_pos (by omega)]; exact ⟨rfl, rfl⟩
      · rw [HC0 hl]; exact ⟨(HF hl).2.2, rfl⟩
    · rw [HCC _ (.inl (by omega)), HC _, if_pos (by omega), show f + (k - f) = k by omega]
      exact ⟨rfl, rfl⟩
end Go.Proofs.Ytedoechjjcbeeaa
