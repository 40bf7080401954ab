/- NodeKeeps: sizes, the cell that is put, what Put and Take leave. -/
import Derived.Test.YtedoechjjcbeeaaNodKeepPlain2
import Derived.Test.YtedoechjjcbeeaaNodWays
set_option linter.unusedVariables false
set_option linter.unusedSimpArgs false
namespace Go.Proofs.Ytedoechjjcbeeaa
open Go.RowKit

theorem czero_sz : czero.d.size ≤ maxLen := by show 0 ≤ maxLen; omega
theorem sz_ins (p : Pg) (a n : Nat) (c : Ce) (hs : Sz p.c) (hc : c.d.size ≤ maxLen) (hn : n ≤ 6) : Sz (p.ins a n c).c := by
  intro q hq
  simp only [Pg.ins, Pg.set, Pg.blit]
  repeat' split
  all_goals first | exact hc | (apply hs; omega)
theorem sz_del (p : Pg) (a n : Nat) (hs : Sz p.c) (hn : n ≤ 6) : Sz (p.del a n).c := by
  intro q hq
  simp only [Pg.del, Pg.set, Pg.blit]
  repeat' split
  all_goals first | exact czero_sz | (apply hs; omega)
theorem sz_zero : Sz Pg.zero.c := fun _ _ => czero_sz
theorem sz_blit0 (p : Pg) (s n : Nat) (hs : Sz p.c) (hn : s + n ≤ 6) : Sz (p.clear.blit p.c 0 s n).c := by
  intro q hq
  simp only [Pg.blit, Pg.clear]
  repeat' split
  all_goals first | exact czero_sz | (apply hs; omega)
theorem sz_low (p : Pg) (hs : Sz p.c) : Sz (lowP p).c := by
  have := cnt_le p.c
  exact sz_blit0 p 0 _ hs (by unfold halfOf; omega)
theorem sz_high (p : Pg) (hs : Sz p.c) (h : 2 ≤ cnt p.c) : Sz (highP p).c := by
  have hn := cnt_le p.c
  have hf := half_facts p h
  have h0 : Sz (high0 p).c := sz_blit0 p _ _ hs (by omega)
  unfold highP
  split
  · exact h0
  · intro q hq
    simp only [Pg.set]
    split
    · show (dat ⟨#[]⟩ (p.c (halfOf p)).rst).size ≤ maxLen
      rw [dat_size]
      have := rst_size1 (p.c (halfOf p)) (hs _ (by omega))
      show 1 + 0 + _ ≤ maxLen
      omega
    · exact h0 q hq
/-- What is known of the cell that is to be put. -/
structure PutC (p : Pg) (key : ByteArray) (c : Ce) (e : Int) : Prop where
  sz : c.d.size ≤ maxLen
  ky : e = 0 → c.key = key
  ok : e = 0 → (p.l = 0 ∨ key.size ≠ 0) → if p.l = 0 then leafCellOk c else innerCellOk c 1
  num : -9223372036854775808 ≤ c.st ∧ c.st ≤ 9223372036854775807
theorem putC_leaf (p : Pg) (key val : ByteArray) (hl : p.l = 0) : PutC p key (leafC key val 2) (leafE key val 2) := by
  unfold leafC leafE
  by_cases h : leafOk key val 2
  · rw [if_pos h, if_pos h]
    obtain ⟨h1, h2, h3⟩ := ce_says 2 key val (by decide) h.2.1
    obtain ⟨k1, k2, k3, k4⟩ := h
    refine ⟨?_, fun _ => h2, fun _ _ => ?_, by show -9223372036854775808 ≤ (2 : Int) ∧ (2 : Int) ≤ 9223372036854775807; decide⟩
    · rw [dat_size]; unfold maxLen; omega
    · rw [if_pos hl]
      exact ⟨h1, by rw [h2]; omega, by rw [h3]; omega, .inr rfl⟩
  · rw [if_neg h, if_neg h]
    exact ⟨czero_sz, fun h => absurd h (by decide), fun h => absurd h (by decide), by decide⟩
theorem putC_inner (p : Pg) (key : ByteArray) (hl : p.l ≠ 0) : PutC p key (innerC key 9) (innerE key 9) := by
  unfold innerC innerE
  by_cases h : innerOk key 9
  · rw [if_pos h, if_pos h]
    obtain ⟨h1, h2, h3, h4⟩ := inner_says key 9 h
    refine ⟨h4, fun _ => h2, fun _ hk => ?_, by show -9223372036854775808 ≤ (1 : Int) ∧ (1 : Int) ≤ 9223372036854775807; decide⟩
    rw [if_neg hl]
    refine ⟨rfl, fun hz => by rw [hz] at h3; exact absurd h3 (by decide), ?_⟩
    rw [h2]
    rcases hk with hk | hk
    · exact absurd hk hl
    · exact ⟨fun h => absurd h hk, fun h => absurd h (by decide)⟩
  · rw [if_neg h, if_neg h]
    exact ⟨czero_sz, fun h => absurd h (by decide), fun h => absurd h (by decide), by decide⟩
theorem put_sz (p : Pg) (c : Ce) (hs : Sz p.c) (hc : c.d.size ≤ maxLen) : Sz (putP p c).c := by
  unfold putP
  split
  · exact sz_ins p _ _ c hs hc (cnt_le p.c)
  · exact sz_zero
theorem put_plain (p : Pg) (key : ByteArray) (c : Ce) (e : Int) (h : nodeOk p) (H : PutC p key c e) (he : e = 0) (hf : putE p c = 0) (hk : p.l = 0 ∨ key.size ≠ 0) :
    nodeE (putP p c) = 0 ∧ cnt (putP p c).c = cnt p.c + 1 ∧ fThere (putP p c) key = true ∧ fAt (putP p c) key < 6 ∧ (putP p c).c (fAt (putP p c) key) = c ∧ cnt p.c < 6 := by
  have hn := cnt_le p.c
  have hkey := H.ky he
  have hok := H.ok he hk
  have h1 : fThere p c.key = false ∧ cnt p.c ≠ 6 := by
    unfold putE at hf
    split at hf
    · exact absurd hf (by decide)
    · split at hf
      · exact absurd hf (by decide)
      · rename_i hh
        split at hf
        · exact absurd hf (by decide)
        · rename_i h6; exact ⟨by simpa using hh, h6⟩
  have hi := ins_node p c h h1.2 h1.1 hok
  have ha := fAt_le p c.key
  unfold putP
  rw [if_pos hf]
  rw [← hkey]
  obtain ⟨i1, i2, i3, i4, i5⟩ := hi
  refine ⟨i1, i2, i4, by rw [i3]; omega, by rw [i3]; exact i5, by omega⟩
theorem take_sz (p : Pg) (i : Int) (hs : Sz p.c) : Sz (takeP p i).c := by
  unfold takeP
  split
  · exact sz_del p _ _ hs (cnt_le p.c)
  · exact sz_zero
theorem take_plain (p : Pg) (i : Int) (h : nodeOk p) (hf : takeE p i = 0) (hl : p.l = 0) : nodeE (takeP p i) = 0 ∧ ((cnt (takeP p i).c : Nat) : Int) = (cnt p.c : Int) - 1 := by
  have ht : takeOk p i := by
    unfold takeE at hf
    split at hf
    · assumption
    · exact absurd hf (by decide)
  unfold takeP
  rw [if_pos ht]
  obtain ⟨t1, t2⟩ := ht
  obtain ⟨d1, d2⟩ := del_node p i.toNat h hl (by omega)
  exact ⟨d1, by rw [d2]; omega⟩
end Go.Proofs.Ytedoechjjcbeeaa
