/- What is done with a node leaves a node. -/
import Derived.Test.YtelbioooggnbiaaGreatNodPl
import Derived.Test.YtelbioooggnbiaaGreatNodSplit2
import Derived.Test.YtelbioooggnbiaaGreatNodCheck
set_option linter.unusedVariables false
set_option linter.unusedSimpArgs false
namespace Go.Proofs.YtelbioooggnbiaaGreat
open Go.RowKit

theorem cnt_node {c : Nat → Ce} (j : Nat) (hj : j ≤ 6) (h1 : ∀ q, q < j → (c q).st ≠ 0) (h2 : ∀ q, j ≤ q → q < 6 → (c q).st = 0) : cnt c = j :=
  cnt_eq c j hj h1 (fun h => h2 j (Nat.le_refl _) h)
theorem node_free {p : Pg} (h : nodeOk p) (q : Nat) (h1 : cnt p.c ≤ q) (h2 : q < 6) : (p.c q).st = 0 ∧ (p.c q).d.size = 0 := (okAt_out h1).1 (h.2 q h2)
theorem node_cell {p : Pg} (h : nodeOk p) (q : Nat) (h1 : q < cnt p.c) : cellOk p q := ((okAt_in h1).1 (h.2 q (by have := cnt_le p.c; omega))).1
theorem cell_st {p : Pg} (h : nodeOk p) (q : Nat) (h1 : q < cnt p.c) : (p.c q).st ≠ 0 := (cellOk_says p q (node_cell h q h1)).1
/-- Is such a page a node? -/
theorem mk_node (p : Pg) (n : Nat) (hn : n ≤ 6) (hk : p.k = 4) (hl : 0 ≤ p.l) (hz : 0 < p.l → n ≠ 0) (hc : ∀ q, q < n → cellOk p q) (hf : ∀ q, n ≤ q → q < 6 → (p.c q).st = 0 ∧ (p.c q).d.size = 0)
    (hs : ∀ q, q + 1 < n → slt (p.c q).key (p.c (q + 1)).key = true) : nodeE p = 0 ∧ cnt p.c = n := by
  have e : cnt p.c = n := cnt_node n hn (fun q hq => (cellOk_says p q (hc q hq)).1) (fun q h1 h2 => (hf q h1 h2).1)
  refine ⟨if_pos ⟨⟨hk, hl, by rw [e]; exact hz⟩, fun q hq => ?_⟩, e⟩
  by_cases h : q < n
  · refine (okAt_in (by omega)).2 ⟨hc q h, fun h0 => ?_⟩
    have := hs (q - 1) (by omega)
    rw [show q - 1 + 1 = q by omega] at this
    exact this
  · exact (okAt_out (by omega)).2 (hf q (by omega) hq)
theorem sorted_lt (p : Pg) (h : nodeOk p) (i j : Nat) (hij : i < j) (hj : j < cnt p.c) : slt (p.c i).key (p.c j).key = true := sorted_le p h j i hij hj
theorem czero_free : czero.st = 0 ∧ czero.d.size = 0 := ⟨rfl, rfl⟩
/-- One cell more. -/
theorem ins_node (p : Pg) (c : Ce) (h : nodeOk p) (h6 : cnt p.c ≠ 6) (ht : fThere p c.key = false) (hc : if p.l = 0 then leafCellOk c else innerCellOk c 1) :
    nodeE (p.ins (fAt p c.key) (cnt p.c) c) = 0 ∧ cnt (p.ins (fAt p c.key) (cnt p.c) c).c = cnt p.c + 1 ∧ fAt (p.ins (fAt p c.key) (cnt p.c) c) c.key = fAt p c.key ∧ fThere (p.ins (fAt p c.key) (cnt p.c) c) c.key = true ∧ (p.ins (fAt p c.key) (cnt p.c) c).c (fAt p c.key) = c := by
  have hn := cnt_le p.c
  have hi := fAt_le p c.key
  have FF := fun i hi => (finds_facts p c.key h i hi).2
  rw [ht] at FF
  have hcell := fun q => node_cell h q
  have hfree := fun q => node_free h q
  have hsort := fun i j => sorted_lt p h i j
  have hp := h.1
  have hsays : c.says := by
    by_cases hl : p.l = 0
    · rw [if_pos hl] at hc; exact hc.1
    · rw [if_neg hl] at hc
      by_cases k : c.says
      · exact k
      · exact absurd (child_not c fun k2 => k k2.1) hc.2.1
  have hfirst : p.l ≠ 0 → 0 < fAt p c.key := fun hl => by
    rw [if_neg hl] at hc
    have h0 := hp.2.2 (by have := hp.2.1; omega)
    have hk0 := (cellOk_inner hl).1 (hcell 0 (by omega))
    have hz : (p.c 0).key.size = 0 := hk0.2.2.2 rfl
    have hne : c.key.size ≠ 0 := fun e => absurd (hc.2.2.1 e) (by decide)
    have := (FF 0 (by omega)).1
    by_cases hx : 0 < fAt p c.key
    · exact hx
    · rw [decide_eq_false hx] at this
      have e : (p.c 0).key = ⟨#[]⟩ := (ba_empty_iff _).2 hz
      rw [e] at this
      unfold slt at this
      rw [ByteArray.toList_eq] at this
      have hl2 : c.key.toList ≠ [] := fun k => by
        rw [ByteArray.toList_eq] at k
        exact hne (by have : c.key.data.toList.length = 0 := by rw [k]; rfl
                      simpa using this)
      cases hq : c.key.toList with
      | nil => exact absurd hq hl2
      | cons a b => rw [hq] at this; simp [Op.bytesLess] at this
  generalize hat : fAt p c.key = i at *
  have hc' : ∀ q, (p.ins i (cnt p.c) c).c q = if q = i then c else if i + 1 ≤ q ∧ q < i + 1 + (cnt p.c - i) then p.c (i + (q - (i + 1))) else p.c q := fun q => rfl
  have hl' : (p.ins i (cnt p.c) c).l = p.l := rfl
  have lo : ∀ q, q < i → (p.ins i (cnt p.c) c).c q = p.c q := fun q hq => by rw [hc', if_neg (by omega), if_neg (by omega)]
  have mid : (p.ins i (cnt p.c) c).c i = c := by rw [hc', if_pos rfl]
  have hi' : ∀ q, i < q → q < cnt p.c + 1 → (p.ins i (cnt p.c) c).c q = p.c (q - 1) := fun q h1 h2 => by
    rw [hc', if_neg (by omega), if_pos (by omega)]; congr 1; omega
  have out : ∀ q, cnt p.c + 1 ≤ q → (p.ins i (cnt p.c) c).c q = p.c q := fun q hq => by rw [hc', if_neg (by omega), if_neg (by omega)]
  have hlt1 : ∀ q, q < i → slt (p.c q).key c.key = true := fun q hq => by rw [(FF q (by omega)).1, decide_eq_true hq]
  have hlt2 : ∀ q, i ≤ q → q < cnt p.c → slt c.key (p.c q).key = true := fun q h1 h2 => by
    obtain ⟨f1, f2⟩ := FF q h2
    rw [decide_eq_false (by omega)] at f1
    rw [Bool.false_and] at f2
    cases hq : slt c.key (p.c q).key
    · have e := slt_tri f1 hq
      rw [(seq_iff _ _).2 e] at f2; cases f2
    · rfl
  have main := mk_node (p.ins i (cnt p.c) c) (cnt p.c + 1) (by omega) hp.1 hp.2.1 (fun _ => by omega)
    (fun q hq => by
      unfold cellOk
      rw [hl']
      rcases Nat.lt_trichotomy q i with h1 | h1 | h1
      · rw [lo q h1]
        have := hcell q (by omega)
        unfold cellOk at this
        exact this
      · rw [h1, mid]
        split
        · rename_i hl; rw [if_pos hl] at hc; exact hc
        · rename_i hl
          rw [if_neg hl] at hc
          have := hfirst hl
          exact ⟨hc.1, hc.2.1, ⟨fun k => absurd (hc.2.2.1 k) (by decide), fun k => by omega⟩⟩
      · rw [hi' q h1 hq]
        have := hcell (q - 1) (by omega)
        unfold cellOk at this
        split
        · rename_i hl; rw [if_pos hl] at this; exact this
        · rename_i hl
          rw [if_neg hl] at this
          have h0 := hfirst hl
          exact ⟨this.1, this.2.1, ⟨fun k => by have := this.2.2.1 k; omega, fun k => by omega⟩⟩)
    (fun q h1 h2 => by rw [out q h1]; exact hfree q (by omega) h2)
    (fun q hq => by
      rcases Nat.lt_trichotomy (q + 1) i with h1 | h1 | h1
      · rw [lo q (by omega), lo (q + 1) h1]; exact hsort q (q + 1) (by omega) (by omega)
      · rw [lo q (by omega), h1, mid]; exact hlt1 q (by omega)
      · by_cases h2 : q = i
        · rw [h2, mid, hi' (i + 1) (by omega) (by omega)]; exact hlt2 _ (by omega) (by omega)
        · rw [hi' q (by omega) (by omega), hi' (q + 1) (by omega) hq]; exact hsort _ _ (by omega) (by omega))
  have hAt : fAt (p.ins i (cnt p.c) c) c.key = i := by
    refine fnd_eq _ _ i (by rw [main.2]; omega) (fun q hq => ?_) (fun _ => ?_)
    · rw [lo q hq]; exact hlt1 q hq
    · rw [mid]; exact slt_irrefl _
  refine ⟨main.1, main.2, hAt, ?_, mid⟩
  unfold fThere
  rw [hAt, main.2, decide_eq_true (by omega), mid, Bool.true_and]
  exact (seq_iff _ _).2 rfl
/-- One cell less. -/
theorem del_node (p : Pg) (i : Nat) (h : nodeOk p) (hl : p.l = 0) (hi : i < cnt p.c) : nodeE (p.del i (cnt p.c)) = 0 ∧ cnt (p.del i (cnt p.c)).c = cnt p.c - 1 := by
  have hn := cnt_le p.c
  have hcell := fun q => node_cell h q
  have hfree := fun q => node_free h q
  have hsort := fun i j => sorted_lt p h i j
  have hp := h.1
  have hc' : ∀ q, (p.del i (cnt p.c)).c q = if q = cnt p.c - 1 then czero else if i ≤ q ∧ q < i + (cnt p.c - 1 - i) then p.c (i + 1 + (q - i)) else p.c q := fun q => rfl
  have hl' : (p.del i (cnt p.c)).l = p.l := rfl
  have lo : ∀ q, q < i → (p.del i (cnt p.c)).c q = p.c q := fun q hq => by rw [hc', if_neg (by omega), if_neg (by omega)]
  have hi' : ∀ q, i ≤ q → q < cnt p.c - 1 → (p.del i (cnt p.c)).c q = p.c (q + 1) := fun q h1 h2 => by
    rw [hc', if_neg (by omega), if_pos (by omega)]; congr 1; omega
  refine mk_node _ (cnt p.c - 1) (by omega) hp.1 hp.2.1 (fun h0 => by rw [hl', hl] at h0; omega) (fun q hq => ?_) (fun q h1 h2 => ?_) (fun q hq => ?_)
  · unfold cellOk
    rw [hl', if_pos hl]
    by_cases h1 : q < i
    · rw [lo q h1]; exact (cellOk_leaf hl).1 (hcell q (by omega))
    · rw [hi' q (by omega) hq]; exact (cellOk_leaf hl).1 (hcell (q + 1) (by omega))
  · by_cases e : q = cnt p.c - 1
    · rw [hc', if_pos e]; exact czero_free
    · rw [hc', if_neg e, if_neg (by omega)]; exact hfree q (by omega) h2
  · by_cases h1 : q + 1 < i
    · rw [lo q (by omega), lo (q + 1) h1]; exact hsort _ _ (by omega) (by omega)
    · by_cases h2 : q < i
      · rw [lo q h2, hi' (q + 1) (by omega) hq]; exact hsort _ _ (by omega) (by omega)
      · rw [hi' q (by omega) (by omega), hi' (q + 1) (by omega) hq]; exact hsort _ _ (by omega) (by omega)
end Go.Proofs.YtelbioooggnbiaaGreat
