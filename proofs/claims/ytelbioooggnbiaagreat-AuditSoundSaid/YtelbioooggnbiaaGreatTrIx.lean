/- Layer 16, plain: a page as a node of a tree told plainly. Layer 16, plain: a full node and a cell more as two nodes. Layer 16, plain: an index in a volume's pages; the way down; a leaf replaced; a row more, from the leaf upwards. Layer 16, plain: the way up with a cell more: a node takes it, becomes two, or the root grows. -/
import Derived.Test.YtelbioooggnbiaaGreatTrAbs
import Derived.Test.YtelbioooggnbiaaGreatNodKeepPlain
import Derived.Test.YtelbioooggnbiaaGreatNodCell2
import Derived.Test.YtelbioooggnbiaaGreatSpcVol
set_option linter.unusedVariables false
set_option linter.unusedSimpArgs false
namespace Go.Proofs.YtelbioooggnbiaaGreat
open Go.RowKit

/-- The order of keys. -/
def kL (a b : ByteArray) : Prop := slt a b = true
theorem kOrd : Ord kL where
  irr := fun a h => by unfold kL at h; rw [slt_irrefl] at h; cases h
  tr := fun a b c h k => slt_trans h k
  tri := fun a b h k => slt_tri (by unfold kL at h; simpa using h) (by unfold kL at k; simpa using k)
/-- A page as a node. -/
def ndOf (p : Pg) : Nd ByteArray Ce := ⟨p.l.toNat, cnt p.c, fun q => (p.c q).key, fun q => (p.c q).child, p.c⟩
theorem slt_empty (x : ByteArray) (e : ByteArray) (he : e.size = 0) : slt x e = false := by
  obtain rfl := (ba_empty_iff e).2 he
  unfold slt
  have : (⟨#[]⟩ : ByteArray).toList = [] := by simp
  rw [this]
  cases x.toList <;> rfl
/-- The way that Down finds. -/
theorem way_down {p : Pg} (h : nodeOk p) (hl : p.l ≠ 0) (k : ByteArray) : Way kL (ndOf p) k (fDown p k) := by
  have hl0 : 0 ≤ p.l := h.1.2.1
  have hn : 0 < cnt p.c := by have := h.1.2.2 (by omega); omega
  have ff := finds_facts p k h
  have hle := fAt_le p k
  have e0 : (p.c 0).key.size = 0 := by
    have := node_cell h 0 hn
    rw [cellOk_inner hl] at this
    exact this.2.2.2 rfl
  unfold fDown
  by_cases ht : fThere p k = true
  · rw [if_pos ht]
    have hlt : fAt p k < cnt p.c := by
      unfold fThere at ht
      rw [Bool.and_eq_true] at ht
      exact of_decide_eq_true ht.1
    have hk : (p.c (fAt p k)).key = k := by
      have := (ff _ hlt).2.2
      rw [ht] at this
      exact (seq_iff _ _).1 (by simpa using this)
    refine ⟨hlt, fun _ hc => ?_, fun h1 => ?_⟩
    · show False
      have hc' : slt k (p.c (fAt p k)).key = true := hc
      rw [hk, slt_irrefl] at hc'
      cases hc'
    · show slt k (p.c (fAt p k + 1)).key = true
      have := sorted_lt p h (fAt p k) (fAt p k + 1) (by omega) h1
      rw [hk] at this
      exact this
  · have ht' : fThere p k = false := by simpa using ht
    rw [if_neg ht]
    have hpos : 0 < fAt p k := by
      refine Nat.pos_of_ne_zero fun e => ?_
      obtain ⟨-, f1, f2⟩ := ff 0 hn
      rw [e] at f1 f2
      rw [ht'] at f2
      have g1 : slt (p.c 0).key k = false := by rw [f1]; simp
      have g2 := slt_tri g1 (slt_empty k _ e0)
      rw [(seq_iff _ _).2 g2] at f2
      simp at f2
    refine ⟨show fAt p k - 1 < cnt p.c by omega, fun _ hc => ?_, fun h1 => ?_⟩
    · have hc' : slt k (p.c (fAt p k - 1)).key = true := hc
      have := (ff (fAt p k - 1) (by omega)).2.1
      rw [decide_eq_true (by omega)] at this
      rw [slt_asymm this] at hc'
      cases hc'
    · have h1' : fAt p k - 1 + 1 < cnt p.c := h1
      show slt k (p.c (fAt p k - 1 + 1)).key = true
      rw [show fAt p k - 1 + 1 = fAt p k by omega] at h1' ⊢
      obtain ⟨-, f1, f2⟩ := ff _ h1'
      rw [ht', Bool.false_and] at f2
      rw [decide_eq_false (by omega)] at f1
      cases g : slt k (p.c (fAt p k)).key with
      | true => rfl
      | false =>
        rw [(seq_iff _ _).2 (slt_tri f1 g)] at f2
        cases f2
/-- A node's keys rise. -/
theorem nd_so {p : Pg} (h : nodeOk p) : ∀ q r, q < r → r < (ndOf p).n → kL ((ndOf p).key q) ((ndOf p).key r) := fun q r hqr hr => sorted_lt p h q r hqr hr
/-- What Find tells. -/
theorem leaf_at {p : Pg} (h : nodeOk p) (k : ByteArray) : fAt p k ≤ (ndOf p).n ∧ (∀ q, q < fAt p k → kL ((ndOf p).key q) k) ∧ (fAt p k < (ndOf p).n → ¬ kL ((ndOf p).key (fAt p k)) k) := by
  have ff := finds_facts p k h
  have hle := fAt_le p k
  refine ⟨hle, fun q hq => ?_, fun hlt hc => ?_⟩
  · have := (ff q (by omega)).2.1
    rw [decide_eq_true hq] at this
    exact this
  · have := (ff _ hlt).2.1
    rw [decide_eq_false (by omega)] at this
    have hc' : slt (p.c (fAt p k)).key k = true := hc
    rw [this] at hc'
    cases hc'
theorem leaf_there {p : Pg} (h : nodeOk p) (k : ByteArray) : fThere p k = true ↔ ∃ q, q < (ndOf p).n ∧ (ndOf p).key q = k := by
  have ff := finds_facts p k h
  constructor
  · intro ht
    have hlt : fAt p k < cnt p.c := by
      unfold fThere at ht
      rw [Bool.and_eq_true] at ht
      exact of_decide_eq_true ht.1
    have := (ff _ hlt).2.2
    rw [ht] at this
    exact ⟨fAt p k, hlt, (seq_iff (p.c (fAt p k)).key k).1 (by simpa using this)⟩
  · rintro ⟨q, hq, e⟩
    have := (ff q hq).2.2
    have e2 : (p.c q).key = k := e
    rw [(seq_iff _ _).2 e2] at this
    cases ht : fThere p k with
    | true => rfl
    | false => rw [ht, Bool.false_and] at this; cases this
theorem leaf_place {p : Pg} (h : nodeOk p) {k : ByteArray} {q : Nat} (hq : q < (ndOf p).n) (e : (ndOf p).key q = k) : q = fAt p k := by
  have := (finds_facts p k h q hq).2.2
  have e2 : (p.c q).key = k := e
  rw [(seq_iff _ _).2 e2] at this
  have h2 := this.symm
  rw [Bool.and_eq_true] at h2
  exact of_decide_eq_true h2.2
/-- A cell more: the cells, one by one. -/
theorem ins_c (p : Pg) {i n : Nat} (c : Ce) (hi : i ≤ n) (q : Nat) (hq : q ≤ n) : (p.ins i n c).c q = insF p.c i c q := by
  unfold Pg.ins Pg.set Pg.blit insF
  dsimp only
  by_cases e1 : q < i
  · rw [if_neg (by omega), if_neg (by omega), if_pos e1]
  · rw [if_neg e1]
    by_cases e2 : q = i
    · rw [if_pos e2, if_pos e2]
    · rw [if_neg e2, if_neg e2, if_pos (by omega), show i + (q - (i + 1)) = q - 1 by omega]
/-- A cell less. -/
theorem del_c (p : Pg) {i n : Nat} (hi : i < n) (q : Nat) (hq : q < n - 1) : (p.del i n).c q = p.c (if q < i then q else q + 1) := by
  unfold Pg.del Pg.set Pg.blit
  dsimp only
  rw [if_neg (by omega)]
  by_cases e1 : q < i
  · rw [if_neg (by omega), if_pos e1]
  · rw [if_pos (by omega), if_neg e1, show i + 1 + (q - i) = q + 1 by omega]
/-- The halves' cells. -/
theorem low_c (p : Pg) (q : Nat) (hq : q < halfOf p) : (lowP p).c q = p.c q := by
  unfold lowP Pg.blit
  dsimp only
  rw [if_pos (by omega), show 0 + (q - 0) = q by omega]
theorem high_c (p : Pg) (q : Nat) (hq : q < cnt p.c - halfOf p) : (high0 p).c q = p.c (halfOf p + q) := by
  unfold high0 Pg.blit
  dsimp only
  rw [if_pos (by omega), show halfOf p + (q - 0) = halfOf p + q by omega]
/-- A leaf with a cell more is a leaf with a key more. -/
theorem ins_key (p : Pg) {i n : Nat} (c : Ce) (hi : i ≤ n) (q : Nat) (hq : q ≤ n) : ((p.ins i n c).c q).key = insF (fun r => (p.c r).key) i c.key q ∧ ((p.ins i n c).c q).child = insF (fun r => (p.c r).child) i c.child q := by
  rw [ins_c p c hi q hq]
  unfold insF
  by_cases e1 : q < i
  · simp only [if_pos e1, and_self]
  · by_cases e2 : q = i
    · simp only [if_neg e1, if_pos e2, and_self]
    · simp only [if_neg e1, if_neg e2, and_self]
end Go.Proofs.YtelbioooggnbiaaGreat
namespace Go.Proofs.YtelbioooggnbiaaGreat
open Go.RowKit

theorem dat_size (key rest : ByteArray) : (dat key rest).size = 1 + key.size + rest.size := by
  unfold dat Oct.text
  simp only [ByteArray.size_append]
  rfl
theorem dat_says (key rest : ByteArray) (h : key.size ≤ 8) : Tx (dat key rest) ∧ n1 (dat key rest) = key.size ∧ tkey (dat key rest) = key ∧ trest (dat key rest) = rest := by
  have hz := dat_size key rest
  have h1 : (⟨#[UInt8.ofNat key.size]⟩ : ByteArray).size = 1 := rfl
  have h2 : ((⟨#[UInt8.ofNat key.size]⟩ : ByteArray) ++ key).size = 1 + key.size := by rw [ByteArray.size_append]; rfl
  have e1 : (dat key rest).extract 0 (1 + key.size) = ⟨#[UInt8.ofNat key.size]⟩ ++ key := by
    have := Oct.take_app ((⟨#[UInt8.ofNat key.size]⟩ : ByteArray) ++ key) rest
    rw [h2] at this
    exact this
  have e2 : (dat key rest).extract 0 1 = ⟨#[UInt8.ofNat key.size]⟩ := by
    have := Oct.take_app (⟨#[UInt8.ofNat key.size]⟩ : ByteArray) key
    rw [h1, ← e1, ex_ex5 _ _ _ _ _ (by omega)] at this
    exact this
  have hn : n1 (dat key rest) = key.size := by
    unfold n1
    rw [e2]
    have : key.size = 0 ∨ key.size = 1 ∨ key.size = 2 ∨ key.size = 3 ∨ key.size = 4 ∨ key.size = 5 ∨ key.size = 6 ∨ key.size = 7 ∨ key.size = 8 := by omega
    show Oct.val [UInt8.ofNat key.size] = key.size
    simp [Oct.val]; omega
  refine ⟨by unfold Tx; omega, hn, ?_, ?_⟩
  · unfold tkey
    rw [hn]
    have := Oct.drop_app (⟨#[UInt8.ofNat key.size]⟩ : ByteArray) key
    rw [h1, h2, ← e1, ex_ex5 _ _ _ _ _ (by omega)] at this
    simpa using this
  · unfold trest
    rw [hn]
    have := Oct.drop_app ((⟨#[UInt8.ofNat key.size]⟩ : ByteArray) ++ key) rest
    rw [h2] at this
    exact this
theorem ce_says (st : Int) (key rest : ByteArray) (h0 : st ≠ 0) (h : key.size ≤ 8) : Ce.says ⟨st, dat key rest⟩ ∧ Ce.key ⟨st, dat key rest⟩ = key ∧ Ce.rst ⟨st, dat key rest⟩ = rest := by
  obtain ⟨h1, h2, h3, h4⟩ := dat_says key rest h
  have hs : Ce.says ⟨st, dat key rest⟩ := ⟨h0, h1, by show n1 (dat key rest) ≤ 8; omega⟩
  exact ⟨hs, by rw [Ce.key_yes hs]; exact h3, by rw [Ce.rst_yes hs]; exact h4⟩
theorem inner_says (key : ByteArray) (child : Int) (h : innerOk key child) :
    Ce.says ⟨1, dat key (Oct.str child.toNat 4)⟩ ∧ Ce.key ⟨1, dat key (Oct.str child.toNat 4)⟩ = key ∧ ((Ce.child ⟨1, dat key (Oct.str child.toNat 4)⟩ : Nat) : Int) = child ∧ (dat key (Oct.str child.toNat 4)).size ≤ maxLen := by
  obtain ⟨h1, h2, h3⟩ := h
  obtain ⟨a, b, c⟩ := ce_says 1 key (Oct.str child.toNat 4) (by decide) h1
  have hz := Oct.str_size child.toNat 4
  have hv := Oct.sval_str child.toNat 4 (by omega)
  refine ⟨a, b, ?_, by rw [dat_size, hz]; unfold maxLen; omega⟩
  rw [child_said _ ⟨a, by rw [c, hz], by rw [c, hv]; omega, by rw [c, hv]; omega⟩, c, hv]
  omega
theorem empty_lt (k : ByteArray) (h : k.size ≠ 0) : slt ⟨#[]⟩ k = true := by
  unfold slt
  rw [ByteArray.toList_eq, ByteArray.toList_eq]
  cases hq : k.data.toList with
  | nil => exact absurd (by have : k.data.toList.length = 0 := by rw [hq]; rfl
                            simpa using this) h
  | cons a b => rfl
theorem half_facts (p : Pg) (h : 2 ≤ cnt p.c) : 1 ≤ halfOf p ∧ halfOf p < cnt p.c ∧ cnt p.c - halfOf p ≤ halfOf p ∧ halfOf p ≤ 3 := by
  have := cnt_le p.c
  unfold halfOf
  omega
theorem hv_low (p : Pg) (q : Nat) : (lowP p).c q = if q < halfOf p then p.c q else czero := by
  have : (lowP p).c q = if 0 ≤ q ∧ q < 0 + halfOf p then p.c (0 + (q - 0)) else czero := rfl
  rw [this]
  by_cases h : q < halfOf p
  · rw [if_pos (by omega), if_pos h]; congr 1; omega
  · rw [if_neg (by omega), if_neg h]
theorem hv_high1 (p : Pg) (q : Nat) : (high0 p).c q = if q < cnt p.c - halfOf p then p.c (halfOf p + q) else czero := by
  have : (high0 p).c q = if 0 ≤ q ∧ q < 0 + (cnt p.c - halfOf p) then p.c (halfOf p + (q - 0)) else czero := rfl
  rw [this]
  by_cases h : q < cnt p.c - halfOf p
  · rw [if_pos (by omega), if_pos h]; congr 1
  · rw [if_neg (by omega), if_neg h]
theorem hv_high (p : Pg) (q : Nat) (hq : q ≠ 0 ∨ p.l = 0) : (highP p).c q = (high0 p).c q := by
  unfold highP
  split
  · rfl
  · rename_i hl
    rcases hq with hq | hq
    · show (if q = 0 then _ else (high0 p).c q) = _
      rw [if_neg hq]
    · exact absurd hq hl
theorem hv_high0 (p : Pg) (hl : p.l ≠ 0) : (highP p).c 0 = ⟨(p.c (halfOf p)).st, dat ⟨#[]⟩ (p.c (halfOf p)).rst⟩ := by
  unfold highP
  rw [if_neg hl]
  rfl
theorem high_l (p : Pg) : (highP p).l = p.l ∧ (highP p).k = p.k := by unfold highP; split <;> exact ⟨rfl, rfl⟩
/-- The first cell of the upper half: its key. -/
theorem high_first (p : Pg) (h : nodeOk p) (h2 : 2 ≤ cnt p.c) (hl : p.l ≠ 0) :
    Ce.says ⟨(p.c (halfOf p)).st, dat ⟨#[]⟩ (p.c (halfOf p)).rst⟩ ∧ Ce.key ⟨(p.c (halfOf p)).st, dat ⟨#[]⟩ (p.c (halfOf p)).rst⟩ = ⟨#[]⟩ ∧ Ce.rst ⟨(p.c (halfOf p)).st, dat ⟨#[]⟩ (p.c (halfOf p)).rst⟩ = (p.c (halfOf p)).rst :=
  ce_says _ _ _ (cell_st h _ (half_facts p h2).2.1) (by decide)
theorem split_node (p : Pg) (h : nodeOk p) (h2 : 2 ≤ cnt p.c) :
    (nodeE (lowP p) = 0 ∧ cnt (lowP p).c = halfOf p) ∧ (nodeE (highP p) = 0 ∧ cnt (highP p).c = cnt p.c - halfOf p) := by
  have hn := cnt_le p.c
  obtain ⟨f1, f2, f3, f4⟩ := half_facts p h2
  have hcell := fun q => node_cell h q
  have hfree := fun q => node_free h q
  have hsort := fun i j => sorted_lt p h i j
  have hp := h.1
  have LC := hv_low p; have HC := hv_high1 p; have HCC := hv_high p; have HC0 := hv_high0 p
  have HF := high_first p h h2
  have HL := high_l p
  generalize halfOf p = f at *
  refine ⟨mk_node (lowP p) f (by omega) hp.1 hp.2.1 (fun _ => by omega) (fun q hq => ?_) (fun q a b => ?_) (fun q hq => ?_),
    mk_node (highP p) (cnt p.c - f) (by omega) (by rw [HL.2]; exact hp.1) (by rw [HL.1]; exact hp.2.1) (fun _ => by omega) (fun q hq => ?_) (fun q a b => ?_) (fun q hq => ?_)⟩
  · have := hcell q (by omega)
    unfold cellOk at this ⊢
    rw [LC q, if_pos hq]
    exact this
  · rw [LC q, if_neg (by omega)]; exact czero_free
  · rw [LC q, LC (q + 1), if_pos (by omega), if_pos hq]; exact hsort _ _ (by omega) (by omega)
  · have := hcell (f + q) (by omega)
    unfold cellOk at this ⊢
    rw [HL.1]
    by_cases hl : p.l = 0
    · rw [if_pos hl] at this ⊢
      rw [HCC q (.inr hl), HC q, if_pos hq]
      exact this
    · rw [if_neg hl] at this ⊢
      by_cases h0 : q = 0
      · subst h0
        obtain ⟨a1, a2, a3⟩ := HF hl
        rw [HC0 hl]
        simp only [Nat.add_zero] at this
        have hch : (p.c f).says ∧ (p.c f).rst.size = 4 ∧ 1 ≤ Oct.sval (p.c f).rst ∧ Oct.sval (p.c f).rst < 1024 := by
          by_cases k : (p.c f).says ∧ (p.c f).rst.size = 4 ∧ 1 ≤ Oct.sval (p.c f).rst ∧ Oct.sval (p.c f).rst < 1024
          · exact k
          · exact absurd (child_not _ k) this.2.1
        refine ⟨this.1, ?_, ?_⟩
        · rw [child_said _ ⟨a1, by rw [a3]; exact hch.2.1, by rw [a3]; exact hch.2.2.1, by rw [a3]; exact hch.2.2.2⟩, a3]
          have := hch.2.2.1; omega
        · rw [a2]; exact ⟨fun _ => rfl, fun _ => rfl⟩
      · rw [HCC q (.inl h0), HC q, if_pos hq]
        exact ⟨this.1, this.2.1, ⟨fun k => by have := this.2.2.1 k; omega, fun k => absurd k h0⟩⟩
  · rw [HCC q (.inl (by omega)), HC q, if_neg (by omega)]; exact czero_free
  · rw [HCC (q + 1) (.inl (by omega)), HC (q + 1), if_pos hq]
    by_cases h0 : q = 0
    · by_cases hl : p.l = 0
      · rw [HCC q (.inr hl), HC q, if_pos (by omega)]; exact hsort _ _ (by omega) (by omega)
      · subst h0
        rw [HC0 hl, (HF hl).2.1]
        refine empty_lt _ fun k => ?_
        have := hcell (f + (0 + 1)) (by omega)
        unfold cellOk at this
        rw [if_neg hl] at this
        have := this.2.2.1 k
        omega
    · rw [HCC q (.inl h0), HC q, if_pos (by omega)]; exact hsort _ _ (by omega) (by omega)

theorem node_c_ok {p : Pg} (h : nodeOk p) (q : Nat) (hq : q < 6) : (p.c q).ok := by
  have hn := cnt_le p.c
  by_cases hlt : q < cnt p.c
  · have hc := node_cell h q hlt
    have hs := cellOk_says p q hc
    have hz : (p.c q).rst.size ≤ 20 ∧ ((p.c q).st = 1 ∨ (p.c q).st = 2) := by
      unfold cellOk at hc
      split at hc
      · exact ⟨hc.2.2.1, hc.2.2.2⟩
      · refine ⟨?_, .inl hc.1⟩
        by_cases k : (p.c q).says ∧ (p.c q).rst.size = 4 ∧ 1 ≤ Oct.sval (p.c q).rst ∧ Oct.sval (p.c q).rst < 1024
        · omega
        · exact absurd (child_not _ k) hc.2.1
    refine .inr ⟨hz.2, ?_⟩
    have h1 := hz.1
    rw [Ce.rst_yes hs, trest_size] at h1
    have h2 := hs.2.2
    omega
  · have := node_free h q (by omega) hq
    exact .inl ⟨this.1, (ba_empty_iff _).2 this.2⟩
theorem node_ok_pg {p : Pg} (h : nodeOk p) (hh : p.head) : p.ok := ⟨hh, fun i hi => node_c_ok h i hi⟩
theorem nodeOk_of {p : Pg} (h : nodeE p = 0) : nodeOk p := by
  by_cases k : nodeOk p
  · exact k
  · unfold nodeE at h; rw [if_neg k] at h; cases h
/-- May a cell be laid in a page's node? -/
def cellFor (p : Pg) (c : Ce) : Prop := if p.l = 0 then leafCellOk c else innerCellOk c 1
theorem cellFor.says {p : Pg} {c : Ce} (hc : cellFor p c) : c.says := by
  unfold cellFor at hc
  by_cases hl : p.l = 0
  · rw [if_pos hl] at hc; exact hc.1
  · rw [if_neg hl] at hc
    by_cases k : c.says
    · exact k
    · exact absurd (child_not c fun k2 => k k2.1) hc.2.1
theorem cellFor.ne {p : Pg} {c : Ce} (hc : cellFor p c) : c.key.size ≠ 0 := by
  unfold cellFor at hc
  by_cases hl : p.l = 0
  · rw [if_pos hl] at hc; exact hc.2.1
  · rw [if_neg hl] at hc
    exact fun e => absurd (hc.2.2.1 e) (by decide)
structure Hv (p : Pg) (c : Ce) (lo hi : Pg) (m : Nat) : Prop where
  m34 : m = 3 ∨ m = 4
  pos : p.l ≠ 0 → 0 < fAt p c.key
  sep : (insF p.c (fAt p c.key) c m).key = sepOf p
  lok : nodeOk lo
  lcnt : cnt lo.c = m
  lc : ∀ q, q < m → lo.c q = insF p.c (fAt p c.key) c q
  hok : nodeOk hi
  hcnt : cnt hi.c = 7 - m
  hc : ∀ q, q < 7 - m → (0 < q ∨ p.l = 0 → hi.c q = insF p.c (fAt p c.key) c (m + q)) ∧ (hi.c q).child = (insF p.c (fAt p c.key) c (m + q)).child
  lh : lo.l = p.l ∧ lo.s = p.s ∧ lo.n = p.n ∧ lo.k = p.k
  hh : hi.l = p.l ∧ hi.s = p.s ∧ hi.n = p.n ∧ hi.k = p.k
theorem first_pos {p : Pg} (h : nodeOk p) {c : Ce} (ht : fThere p c.key = false) (hc : cellFor p c) (hl : p.l ≠ 0) : 0 < fAt p c.key := by
  have h0 := h.1.2.2 (by have := h.1.2.1; omega)
  have hk0 := (cellOk_inner hl).1 (node_cell h 0 (by omega))
  have hz : (p.c 0).key.size = 0 := hk0.2.2.2 rfl
  have ff := (finds_facts p c.key h 0 (by omega)).2.1
  by_cases hx : 0 < fAt p c.key
  · exact hx
  · rw [decide_eq_false hx, (ba_empty_iff _).2 hz, empty_lt _ hc.ne] at ff
    cases ff
theorem half6 {p : Pg} (h6 : cnt p.c = 6) : halfOf p = 3 := by unfold halfOf; rw [h6]
theorem child_same {p : Pg} (h : nodeOk p) (h2 : 2 ≤ cnt p.c) (hl : p.l ≠ 0) : ((highP p).c 0).child = (p.c (halfOf p)).child := by
  obtain ⟨a1, a2, a3⟩ := high_first p h h2 hl
  rw [hv_high0 p hl]
  have hc := (cellOk_inner hl).1 (node_cell h (halfOf p) (half_facts p h2).2.1)
  have hs := cellOk_says p _ (node_cell h (halfOf p) (half_facts p h2).2.1)
  have hch : (p.c (halfOf p)).says ∧ (p.c (halfOf p)).rst.size = 4 ∧ 1 ≤ Oct.sval (p.c (halfOf p)).rst ∧ Oct.sval (p.c (halfOf p)).rst < 1024 := by
    by_cases k : (p.c (halfOf p)).says ∧ (p.c (halfOf p)).rst.size = 4 ∧ 1 ≤ Oct.sval (p.c (halfOf p)).rst ∧ Oct.sval (p.c (halfOf p)).rst < 1024
    · exact k
    · exact absurd (child_not _ k) hc.2.1
  rw [child_said _ ⟨a1, by rw [a3]; exact hch.2.1, by rw [a3]; exact hch.2.2.1, by rw [a3]; exact hch.2.2.2⟩, a3, child_said _ hch]
theorem putE_zero {p : Pg} {c : Ce} (h1 : c.says) (h2 : fThere p c.key = false) (h3 : cnt p.c ≠ 6) : putE p c = 0 ∧ putP p c = p.ins (fAt p c.key) (cnt p.c) c := by
  have e : putE p c = 0 := by unfold putE; rw [if_neg (by simp [h1]), if_neg (by simp [h2]), if_neg h3]
  exact ⟨e, by unfold putP; rw [if_pos e]⟩
/-- The new cell goes into the lower half. -/
theorem hv_lo {p : Pg} {c : Ce} (h : nodeOk p) (h6 : cnt p.c = 6) (ht : fThere p c.key = false) (hc : cellFor p c) (hlt : slt c.key (sepOf p) = true) :
    putE (lowP p) c = 0 ∧ Hv p c (putP (lowP p) c) (highP p) 4 := by
  obtain ⟨⟨l1, l2⟩, ⟨g1, g2⟩⟩ := split_node p h (by omega)
  have e3 := half6 h6
  have LC := hv_low p; have HC := hv_high1 p; have HCC := hv_high p; have HL := high_l p
  have CS := child_same h (show 2 ≤ cnt p.c by omega)
  have pos := first_pos h ht hc
  rw [e3] at l2 g2 LC HC CS
  rw [h6] at g2 HC
  have hi : fAt p c.key ≤ 3 := by
    by_cases k : fAt p c.key ≤ 3
    · exact k
    · have := (finds_facts p c.key h 3 (by omega)).2.1
      rw [decide_eq_true (by omega)] at this
      have h3 : sepOf p = (p.c 3).key := by unfold sepOf; rw [e3]
      rw [h3] at hlt
      rw [slt_asymm this] at hlt
      cases hlt
  have FF := fun q hq => (finds_facts p c.key h q hq).2
  have hA : fAt (lowP p) c.key = fAt p c.key := by
    refine fnd_eq _ _ _ (by rw [l2]; exact hi) (fun q hq => ?_) (fun hlt2 => ?_)
    · rw [LC, if_pos (by omega), (FF q (by omega)).1, decide_eq_true hq]
    · rw [l2] at hlt2
      rw [LC, if_pos hlt2, (FF _ (by omega)).1, decide_eq_false (by omega)]
  have hT : fThere (lowP p) c.key = false := by
    unfold fThere
    rw [hA, l2]
    by_cases k : fAt p c.key < 3
    · rw [LC, if_pos k, (FF _ (by omega)).2, ht]; simp
    · rw [decide_eq_false k]; rfl
  have lk : nodeOk (lowP p) := nodeOk_of l1
  have hl' : (lowP p).l = p.l := rfl
  obtain ⟨e0, eP⟩ := putE_zero hc.says hT (by omega)
  have main := ins_node (lowP p) c lk (by omega) hT (by rw [hl']; exact hc)
  rw [l2, hA] at main eP
  refine ⟨e0, ⟨.inr rfl, pos, ?_, ?_, ?_, fun q hq => ?_, nodeOk_of g1, ?_, fun q hq => ?_, ?_, ?_⟩⟩
  · rw [insF_gt (by omega)]; unfold sepOf; rw [e3]
  · rw [eP]; exact nodeOk_of main.1
  · rw [eP]; exact main.2.1
  · rw [eP, ins_c (lowP p) c (by omega) q (by omega)]
    unfold insF
    by_cases k1 : q < fAt p c.key
    · rw [if_pos k1, if_pos k1, LC, if_pos (by omega)]
    · rw [if_neg k1, if_neg k1]
      by_cases k2 : q = fAt p c.key
      · rw [if_pos k2, if_pos k2]
      · rw [if_neg k2, if_neg k2, LC, if_pos (by omega)]
  · rw [g2]
  · rw [insF_gt (by omega), show 4 + q - 1 = 3 + q by omega]
    constructor
    · intro h0
      rw [HCC q (by rcases h0 with h0 | h0; exact .inl (by omega); exact .inr h0), HC, if_pos (by omega)]
    · by_cases h0 : q ≠ 0 ∨ p.l = 0
      · rw [HCC q h0, HC, if_pos (by omega)]
      · obtain rfl : q = 0 := by omega
        exact CS (by omega)
  · rw [eP]; exact ⟨rfl, rfl, rfl, rfl⟩
  · refine ⟨HL.1, ?_, ?_, HL.2⟩ <;> · unfold highP; split <;> rfl
/-- The new cell goes into the upper half. -/
theorem hv_hi {p : Pg} {c : Ce} (h : nodeOk p) (h6 : cnt p.c = 6) (ht : fThere p c.key = false) (hc : cellFor p c) (hlt : slt c.key (sepOf p) = false) :
    putE (highP p) c = 0 ∧ Hv p c (lowP p) (putP (highP p) c) 3 := by
  obtain ⟨⟨l1, l2⟩, ⟨g1, g2⟩⟩ := split_node p h (by omega)
  have e3 := half6 h6
  have LC := hv_low p; have HC := hv_high1 p; have HCC := hv_high p; have HL := high_l p; have HC0 := hv_high0 p
  have HF := high_first p h (show 2 ≤ cnt p.c by omega)
  have CS := child_same h (show 2 ≤ cnt p.c by omega)
  have pos := first_pos h ht hc
  rw [e3] at l2 g2 LC HC CS HC0 HF
  rw [h6] at g2 HC
  have FF := fun q hq => (finds_facts p c.key h q hq).2
  have hle := fAt_le p c.key
  have hi : 4 ≤ fAt p c.key := by
    by_cases k : 4 ≤ fAt p c.key
    · exact k
    · have h3 : sepOf p = (p.c 3).key := by unfold sepOf; rw [e3]
      rw [h3] at hlt
      obtain ⟨f1, f2⟩ := FF 3 (by omega)
      rw [decide_eq_false (by omega)] at f1
      rw [ht, Bool.false_and, (seq_iff _ _).2 (slt_tri f1 hlt)] at f2
      cases f2
  have key1 : ∀ q, q < 3 → (q ≠ 0 ∨ p.l = 0) → (highP p).c q = p.c (3 + q) := fun q hq h0 => by rw [HCC q h0, HC, if_pos (by omega)]
  have key0 : p.l ≠ 0 → ((highP p).c 0).key = ⟨#[]⟩ := fun hl => by rw [HC0 hl]; exact (HF hl).2.1
  have hA : fAt (highP p) c.key = fAt p c.key - 3 := by
    refine fnd_eq _ _ _ (by rw [g2]; omega) (fun q hq => ?_) (fun hlt2 => ?_)
    · by_cases h0 : q ≠ 0 ∨ p.l = 0
      · rw [key1 q (by omega) h0, (FF (3 + q) (by omega)).1, decide_eq_true (by omega)]
      · obtain rfl : q = 0 := by omega
        rw [key0 (by omega)]
        exact empty_lt _ hc.ne
    · rw [g2] at hlt2
      rw [key1 _ (by omega) (.inl (by omega)), show 3 + (fAt p c.key - 3) = fAt p c.key by omega, (FF _ (by omega)).1, decide_eq_false (by omega)]
  have hT : fThere (highP p) c.key = false := by
    unfold fThere
    rw [hA, g2]
    by_cases k : fAt p c.key - 3 < 6 - 3
    · rw [key1 _ (by omega) (.inl (by omega)), show 3 + (fAt p c.key - 3) = fAt p c.key by omega, (FF _ (by omega)).2, ht]; simp
    · rw [decide_eq_false k]; rfl
  have gk : nodeOk (highP p) := nodeOk_of g1
  obtain ⟨e0, eP⟩ := putE_zero hc.says hT (by omega)
  have main := ins_node (highP p) c gk (by omega) hT (by rw [HL.1]; exact hc)
  rw [g2, hA] at main eP
  refine ⟨e0, ⟨.inl rfl, pos, ?_, nodeOk_of l1, l2, fun q hq => ?_, ?_, ?_, fun q hq => ?_, ⟨rfl, rfl, rfl, rfl⟩, ?_⟩⟩
  · rw [insF_lt (by omega)]; unfold sepOf; rw [e3]
  · rw [LC, if_pos hq, insF_lt (by omega)]
  · rw [eP]; exact nodeOk_of main.1
  · rw [eP, main.2.1]
  · rw [eP, ins_c (highP p) c (by omega) q (by omega)]
    by_cases k1 : q < fAt p c.key - 3
    · rw [insF_lt k1, insF_lt (by omega)]
      constructor
      · intro h0
        rw [key1 q (by omega) (by rcases h0 with h0 | h0; exact .inl (by omega); exact .inr h0)]
      · by_cases h0 : q ≠ 0 ∨ p.l = 0
        · rw [key1 q (by omega) h0]
        · obtain rfl : q = 0 := by omega
          exact CS (by omega)
    · by_cases k2 : q = fAt p c.key - 3
      · rw [k2, insF_at, show 3 + (fAt p c.key - 3) = fAt p c.key by omega, insF_at]
        exact ⟨fun _ => rfl, rfl⟩
      · rw [insF_gt (by omega), insF_gt (by omega), key1 (q - 1) (by omega) (.inl (by omega)), show 3 + (q - 1) = 3 + q - 1 by omega]
        exact ⟨fun _ => rfl, rfl⟩
  · rw [eP]
    refine ⟨HL.1, ?_, ?_, HL.2⟩
    · show (highP p).s = _; unfold highP; split <;> rfl
    · show (highP p).n = _; unfold highP; split <;> rfl
end Go.Proofs.YtelbioooggnbiaaGreat
namespace Go.Proofs.YtelbioooggnbiaaGreat
open Go.RowKit Go.Maps

section
variable {K C : Type} {lt : K → K → Prop}
theorem flat_sublist {α : Type} (n : Nat) {f g : Nat → List α} (h : ∀ q, q < n → (f q).Sublist (g q)) : (flat n f).Sublist (flat n g) := by
  induction n with
  | zero => exact List.Sublist.refl _
  | succ n ih => rw [flat_succ, flat_succ]; exact (ih fun q hq => h q (by omega)).append (h n (by omega))
/-- The leaves are of the nodes. -/
theorem Tr.lf_sub {N : Nat → Nd K C} {h id : Nat} {a b : Option K} {L I : List Nat} {R : List (K × C)} (t : Tr lt N h id a b L I R) : L.Sublist I := by
  induction t with
  | leaf h0 h1 h2 => exact List.Sublist.refl _
  | inner lf ids rs h0 hn h1 h2 hk ih => exact (flat_sublist _ ih).cons _
/-- Where a key's leaf stands among the leaves. -/
theorem Tr.spot (o : Ord lt) {N : Nat → Nd K C} {k : K} {l H id : Nat} (hd : Down lt N k 0 l H id) : ∀ {a b : Option K} {L I : List Nat} {R : List (K × C)}, Tr lt N H id a b L I R → inR lt a b k →
    ∃ u v, L = u ++ [l] ++ v ∧ (∀ i, i ∈ u → ∀ x, x ∈ (N i).rows → lt x.1 k) ∧ (∀ i, i ∈ v → ∀ x, x ∈ (N i).rows → lt k x.1) := by
  induction hd with
  | here =>
    intro a b L I R t hk
    obtain ⟨rfl, -⟩ := t.lf
    exact ⟨[], [], rfl, fun i hi => (by cases hi), fun i hi => (by cases hi)⟩
  | @step h' id q hw hd ih =>
    intro a b L I R t hk
    cases t with
    | inner lf ids rs h0 hn h1 h2 hkk =>
      have hq := hw.1
      obtain ⟨u, v, e1, e2, e3⟩ := ih (hkk q hq) (hw.inR hk)
      have inl : ∀ r, r < (N id).n → ∀ i, i ∈ lf r → ∀ x, x ∈ (N i).rows → x ∈ rs r := fun r hr i hi x hx => by
        rw [(hkk r hr).leaves.1]
        exact List.mem_flatMap.2 ⟨i, hi, hx⟩
      refine ⟨flat q lf ++ u, v ++ flat ((N id).n - q - 1) (fun r => lf (q + 1 + r)), ?_, ?_, ?_⟩
      · rw [flat_split _ lf q hq, e1]; simp [List.append_assoc]
      · intro i hi x hx
        rcases List.mem_append.1 hi with hi | hi
        · obtain ⟨r, hr, hi⟩ := flat_mem.1 hi
          exact kid_lt o h2 hr hq ((hkk r (by omega)).range o x (inl r (by omega) i hi x hx)) (hw.inR hk)
        · exact e2 i hi x hx
      · intro i hi x hx
        rcases List.mem_append.1 hi with hi | hi
        · exact e3 i hi x hx
        · obtain ⟨r, hr, hi⟩ := flat_mem.1 hi
          exact kid_lt o h2 (show q < q + 1 + r by omega) (by omega) (hw.inR hk) ((hkk (q + 1 + r) (by omega)).range o x (inl _ (by omega) i hi x hx))
theorem insF_app {α β : Type} (g : α → β) (f : Nat → α) (i : Nat) (x : α) (r : Nat) : g (insF f i x r) = insF (fun r => g (f r)) i (g x) r := by
  unfold insF
  by_cases h : r < i
  · rw [if_pos h, if_pos h]
  · rw [if_neg h, if_neg h]
    by_cases h2 : r = i
    · rw [if_pos h2, if_pos h2]
    · rw [if_neg h2, if_neg h2]
end
theorem inR_none {k : ByteArray} : inR kL none none k := ⟨fun x hx => (by cases hx), fun x hx => (by cases hx)⟩
abbrev NN (pg : Nat → Pg) : Nat → Nd ByteArray Ce := fun i => ndOf (pg i)
/-- The way down. -/
def dn (pg : Nat → Pg) (k : ByteArray) (rt : Nat) : Nat → Nat
  | 0 => rt
  | j + 1 => ((pg (dn pg k rt j)).c (fDown (pg (dn pg k rt j)) k)).child
/-- A page of an index. -/
structure PgF (pg : Nat → Pg) (n : Nat) (ow : Nat → Option Int) (sn : Int) (i : Nat) : Prop where
  two : 2 ≤ i
  lt : i < n
  nd : nodeOk (pg i)
  ok : (pg i).ok
  ow : ow i = some sn
  s : (pg i).s = sn
  fl : (pg i).l ≠ 0 → 2 ≤ cnt (pg i).c
structure Ix (pg : Nat → Pg) (n : Nat) (ow : Nat → Option Int) (sn : Int) (rt H : Nat) (lf ids : List Nat) (R : List (ByteArray × Ce)) (ff : Prop) : Prop where
  tr : Tr kL (NN pg) H rt none none lf ids R
  nd : ids.Nodup
  pgs : ∀ i, i ∈ ids → PgF pg n ow sn i
  ch : Chn (fun i => (pg i).n.toNat) lf
  ff : ff → ∀ i, i ∈ ids → i ≠ rt → 3 ≤ cnt (pg i).c
  hn : n ≤ 1024
section
variable {pg pgc : Nat → Pg} {n : Nat} {ow owc : Nat → Option Int} {sn : Int} {rt H : Nat} {lf ids : List Nat} {R : List (ByteArray × Ce)} {ff : Prop}
theorem Ix.lf_nd (h : Ix pg n ow sn rt H lf ids R ff) : lf.Nodup := h.nd.sublist h.tr.lf_sub
theorem Ix.lf_mem (h : Ix pg n ow sn rt H lf ids R ff) {i : Nat} (hi : i ∈ lf) : i ∈ ids ∧ (pg i).l = 0 := by
  have h1 := h.tr.lf_sub.subset hi
  refine ⟨h1, ?_⟩
  have := (h.tr.leaves.2.2 i hi).2
  have h2 := (h.pgs i h1).nd.1.2.1
  have h3 : (pg i).l.toNat = 0 := this
  omega
theorem nodup_lt2 (l : List Nat) (n : Nat) (hd : l.Nodup) (h : ∀ x ∈ l, 2 ≤ x ∧ x < n) : l.length ≤ n - 2 := by
  have := nodup_len_le l ((List.range (n - 2)).map fun x => x + 2) hd (fun x hx => by
    have := h x hx
    exact List.mem_map.2 ⟨x - 2, List.mem_range.2 (by omega), by omega⟩)
  rwa [List.length_map, List.length_range] at this
theorem Ix.len (h : Ix pg n ow sn rt H lf ids R ff) : ids.length ≤ n - 2 := nodup_lt2 _ _ h.nd fun i hi => ⟨(h.pgs i hi).two, (h.pgs i hi).lt⟩
/-- No way is longer than ten. -/
theorem Ix.high (h : Ix pg n ow sn rt H lf ids R ff) : H ≤ 9 := by
  have h1 := h.tr.many fun i hi hl => (h.pgs i hi).fl (fun e => hl (by show (pg i).l.toNat = 0; rw [e]; rfl))
  have h2 := h.tr.lf_sub.length_le
  have h3 := h.len
  have h4 := h.hn
  by_cases e : H ≤ 9
  · exact e
  · have : 2 ^ 10 ≤ 2 ^ H := Nat.pow_le_pow_right (by decide) (by omega)
    omega
theorem Ix.at_ (h : Ix pg n ow sn rt H lf ids R ff) (k : ByteArray) : ∀ j, j ≤ H → Down kL (NN pg) k (H - j) (dn pg k rt j) H rt ∧ dn pg k rt j ∈ ids ∧ (pg (dn pg k rt j)).l = ((H - j : Nat) : Int) := by
  have step : ∀ j, Down kL (NN pg) k (H - j) (dn pg k rt j) H rt → dn pg k rt j ∈ ids ∧ (pg (dn pg k rt j)).l = ((H - j : Nat) : Int) := fun j d => by
    obtain ⟨a', b', A, B, u, v, P, Q, lfx, idx, rsx, tx, -, -, -, e, -⟩ := h.tr.sub kOrd d inR_none
    obtain ⟨s1, s2⟩ := tx.self
    have hm : dn pg k rt j ∈ ids := by rw [e]; simp [s1]
    have h3 : (pg (dn pg k rt j)).l.toNat = H - j := s2
    have := (h.pgs _ hm).nd.1.2.1
    exact ⟨hm, by omega⟩
  intro j
  induction j with
  | zero => intro _; exact ⟨.here, step 0 .here⟩
  | succ j ih =>
    intro hj
    obtain ⟨d, hm, hl⟩ := ih (by omega)
    have hw := way_down (h.pgs _ hm).nd (by rw [hl]; omega) k
    rw [show H - j = (H - (j + 1)) + 1 by omega] at d
    have d2 := d.more hw
    exact ⟨d2, step (j + 1) d2⟩
theorem Ix.way (h : Ix pg n ow sn rt H lf ids R ff) (k : ByteArray) {j : Nat} (hj : j < H) : Way kL (NN pg (dn pg k rt j)) k (fDown (pg (dn pg k rt j)) k) := by
  obtain ⟨d, hm, hl⟩ := h.at_ k j (by omega)
  exact way_down (h.pgs _ hm).nd (by rw [hl]; omega) k
/-- A key's leaf, what stands to its left and to its right. -/
theorem Ix.leaf (h : Ix pg n ow sn rt H lf ids R ff) (k : ByteArray) : ∃ u v, lf = u ++ [dn pg k rt H] ++ v ∧ R = u.flatMap (fun i => (ndOf (pg i)).rows) ++ (ndOf (pg (dn pg k rt H))).rows ++ v.flatMap (fun i => (ndOf (pg i)).rows) ∧
    (∀ x, x ∈ u.flatMap (fun i => (ndOf (pg i)).rows) → kL x.1 k) ∧ (∀ x, x ∈ v.flatMap (fun i => (ndOf (pg i)).rows) → kL k x.1) := by
  obtain ⟨d, hm, hl⟩ := h.at_ k H (Nat.le_refl _)
  rw [Nat.sub_self] at d
  obtain ⟨u, v, e1, e2, e3⟩ := h.tr.spot kOrd d inR_none
  refine ⟨u, v, e1, ?_, fun x hx => ?_, fun x hx => ?_⟩
  · have := h.tr.leaves.1
    rw [this, e1]
    simp [List.flatMap_append]
  · obtain ⟨i, hi, hx⟩ := List.mem_flatMap.1 hx
    exact e2 i hi x hx
  · obtain ⟨i, hi, hx⟩ := List.mem_flatMap.1 hx
    exact e3 i hi x hx
theorem upd_at (pg : Nat → Pg) (i : Nat) (p : Pg) : upd pg i p i = p := if_pos rfl
theorem upd_ne (pg : Nat → Pg) {i j : Nat} (p : Pg) (h : j ≠ i) : upd pg i p j = pg j := if_neg h
/-- A key's leaf is another one, of keys that it had. -/
theorem Ix.swap (h : Ix pg n ow sn rt H lf ids R ff) (k : ByteArray) (p : Pg) {ff' : Prop} (h1 : nodeOk p) (h2 : p.l = 0) (h3 : p.ok) (h4 : p.s = sn) (h5 : p.n = (pg (dn pg k rt H)).n) (h6 : ∀ q, q < cnt p.c → ∃ r, r < cnt (pg (dn pg k rt H)).c ∧ (p.c q).key = ((pg (dn pg k rt H)).c r).key) (h7 : ff' → ff ∧ (cnt (pg (dn pg k rt H)).c ≤ cnt p.c)) {u v : List Nat} (e1 : lf = u ++ [dn pg k rt H] ++ v) :
    Ix (upd pg (dn pg k rt H) p) n ow sn rt H lf ids (u.flatMap (fun i => (ndOf (pg i)).rows) ++ (ndOf p).rows ++ v.flatMap (fun i => (ndOf (pg i)).rows)) ff' := by
  obtain ⟨d, hm, hl⟩ := h.at_ k H (Nat.le_refl _)
  rw [Nat.sub_self] at d
  obtain ⟨a', b', A, B, u0, v0, P, Q, lfx, idx, rsx, tx, hk, e3, e4, e5, -, -, cl⟩ := h.tr.sub kOrd d inR_none
  obtain ⟨rfl, rfl, rfl, h0, lfk⟩ := tx.lf
  have nd := h.nd
  have lnd := h.lf_nd
  generalize dn pg k rt H = l at *
  have hPQ : ∀ i, i ∈ P ∨ i ∈ Q → i ≠ l := fun i hi e => by
    subst e
    rw [e5, List.nodup_append, List.nodup_append] at nd
    rcases hi with hi | hi
    · exact nd.1.2.2 i hi i (by simp) rfl
    · exact nd.2.2 i (by simp) i hi rfl
  have hl : ∀ i, i ∈ u ∨ i ∈ v → i ≠ l := fun i hi e => by
    subst e
    rw [e1, List.nodup_append, List.nodup_append] at lnd
    rcases hi with hi | hi
    · exact lnd.1.2.2 i hi i (by simp) rfl
    · exact lnd.2.2 i (by simp) i hi rfl
  have eN : NN (upd pg l p) l = ndOf p := by show ndOf (upd pg l p l) = _; rw [upd_at]
  have t0 : Tr kL (NN (upd pg l p)) 0 l a' b' [l] [l] (NN (upd pg l p) l).rows := .leaf (by rw [eN]; show p.l.toNat = 0; rw [h2]; rfl) (fun q hq => by
      rw [eN] at hq ⊢
      obtain ⟨r, hr, e⟩ := h6 q hq
      show inR kL a' b' (p.c q).key
      rw [e]; exact lfk.bd r hr) (by rw [eN]; exact nd_so h1)
  have t1 := cl (NN (upd pg l p)) [l] [l] _ (fun i hi => by show ndOf (upd pg l p i) = _; rw [upd_ne pg p (hPQ i hi)]) t0
  rw [← e4, ← e5] at t1
  have e6 := t1.leaves.1
  have fe : ∀ w : List Nat, (∀ i, i ∈ w → i ≠ l) → (w.flatMap fun i => (NN (upd pg l p) i).rows) = w.flatMap fun i => (ndOf (pg i)).rows := fun w hw => by
    induction w with
    | nil => rfl
    | cons x w ih =>
      rw [List.flatMap_cons, List.flatMap_cons, ih (fun i hi => hw i (List.mem_cons_of_mem _ hi))]
      congr 1
      show (ndOf (upd pg l p x)).rows = _
      rw [upd_ne pg p (hw x List.mem_cons_self)]
  rw [e6] at t1
  have e7 : (lf.flatMap fun i => (NN (upd pg l p) i).rows) = u.flatMap (fun i => (ndOf (pg i)).rows) ++ (ndOf p).rows ++ v.flatMap (fun i => (ndOf (pg i)).rows) := by
    rw [e1, List.flatMap_append, List.flatMap_append, fe u (fun i hi => hl i (.inl hi)), fe v (fun i hi => hl i (.inr hi))]
    congr 2
    rw [List.flatMap_cons, List.flatMap_nil, List.append_nil, eN]
  rw [e7] at t1
  refine ⟨t1, h.nd, fun i hi => ?_, h.ch.same fun i hi => ?_, fun hf i hi hr => ?_, h.hn⟩
  · have := h.pgs i hi
    by_cases e : i = l
    · subst e
      refine ⟨this.two, this.lt, ?_, ?_, this.ow, ?_, ?_⟩ <;> rw [upd_at]
      · exact h1
      · exact h3
      · exact h4
      · exact fun hc => absurd h2 hc
    · exact ⟨this.two, this.lt, by rw [upd_ne _ _ e]; exact this.nd, by rw [upd_ne _ _ e]; exact this.ok, this.ow, by rw [upd_ne _ _ e]; exact this.s, by rw [upd_ne _ _ e]; exact this.fl⟩
  · show (upd pg l p i).n.toNat = _
    by_cases e : i = l
    · subst e; rw [upd_at, h5]
    · rw [upd_ne _ _ e]
  · have := h.ff (h7 hf).1 i hi hr
    by_cases e : i = l
    · subst e; rw [upd_at]; have := (h7 hf).2; omega
    · rw [upd_ne _ _ e]; exact this
/-- A key between two neighbours of an inner node. -/
theorem fAt_between {p : Pg} (h : nodeOk p) (hl : p.l ≠ 0) {s : ByteArray} (hs : s.size ≠ 0) {q : Nat} (hq : q < cnt p.c) (h1 : 0 < q → kL (p.c q).key s) (h2 : q + 1 < cnt p.c → kL s (p.c (q + 1)).key) : fAt p s = q + 1 ∧ fThere p s = false := by
  have low : ∀ r, r < q + 1 → slt (p.c r).key s = true := fun r hr => by
    by_cases e : q = 0
    · obtain rfl : r = 0 := by omega
      have := (cellOk_inner hl).1 (node_cell h 0 (by omega))
      rw [(ba_empty_iff _).2 (this.2.2.2 rfl)]
      exact empty_lt s hs
    · by_cases e2 : r = q
      · rw [e2]; exact h1 (by omega)
      · exact slt_trans (sorted_lt p h r q (by omega) hq) (h1 (by omega))
  have e : fAt p s = q + 1 := fnd_eq _ _ _ (by omega) low (fun hlt => slt_asymm (h2 hlt))
  refine ⟨e, ?_⟩
  unfold fThere
  rw [e]
  by_cases hlt : q + 1 < cnt p.c
  · rw [decide_eq_true hlt, Bool.true_and]
    cases hx : seq (p.c (q + 1)).key s
    · rfl
    · have := (seq_iff _ _).1 hx
      have h3 : slt s (p.c (q + 1)).key = true := h2 hlt
      rw [this, slt_irrefl] at h3
      cases h3
  · rw [decide_eq_false hlt]; rfl
/-- On the way up with a cell more. -/
structure InsSt (pg : Nat → Pg) (n : Nat) (ow : Nat → Option Int) (sn : Int) (rt H : Nat) (lf ids : List Nat) (R : List (ByteArray × Ce)) (ff : Prop) (k : ByteArray) (c0 : Ce) (j : Nat) (c : Ce) (pgc : Nat → Pg) (owc : Nat → Option Int) (news : List Nat) : Prop where
  ix : Ix pg n ow sn rt H lf ids R ff
  hj : j ≤ H
  k0 : c0.key = k
  cell : cellFor (pg (dn pg k rt j)) c
  there : fThere (pg (dn pg k rt j)) c.key = false
  nw : ∀ i, i ∈ news → PgF pgc n owc sn i ∧ ow i = none ∧ 3 ≤ cnt (pgc i).c
  nd : news.Nodup
  len : news.length = H - j
  old : ∀ i, i ∈ ids → PgF pgc n owc sn i ∧ (ff → i ≠ rt → 3 ≤ cnt (pgc i).c)
  out : ∀ i, i ≠ 1 → i ∉ ids → i ∉ news → pgc i = pg i
  owo : ∀ i, i ∉ news → owc i = ow i
  low : j = H → pgc = pg ∧ c = c0
  mid : j < H → ∃ (s : ByteArray) (id2 l l2 : Nat), c.key = s ∧ c.child = id2 ∧ id2 ∈ news ∧ Mid kL (NN pg) (NN pgc) ids (H - j - 1) (dn pg k rt (j + 1)) k c0 s id2 news l l2 ∧
    l ∈ lf ∧ l2 ∈ news ∧ (pgc l).n = (l2 : Int) ∧ (pgc l2).n = (pg l).n ∧ ∀ i, i ∈ lf → i ≠ l → (pgc i).n = (pg i).n
theorem InsSt.start (h : Ix pg n ow sn rt H lf ids R ff) {c0 : Ce} (hc : leafCellOk c0) (ht : fThere (pg (dn pg c0.key rt H)) c0.key = false) : InsSt pg n ow sn rt H lf ids R ff c0.key c0 H c0 pg ow [] where
  ix := h
  hj := Nat.le_refl _
  k0 := rfl
  cell := by
    unfold cellFor
    have := (h.at_ c0.key H (Nat.le_refl _)).2.2
    rw [if_pos (by rw [this]; omega)]
    exact hc
  there := ht
  nw := fun i hi => by cases hi
  nd := List.nodup_nil
  len := by simp
  old := fun i hi => ⟨h.pgs i hi, fun hf hr => h.ff hf i hi hr⟩
  out := fun i _ _ _ => rfl
  owo := fun i _ => rfl
  low := fun _ => ⟨rfl, rfl⟩
  mid := fun hlt => absurd hlt (Nat.lt_irrefl _)
/-- A place in a tree, for whatever is done with it. -/
theorem Ix.spot (h : Ix pg n ow sn rt H lf ids R ff) (k : ByteArray) {j : Nat} (hj : j ≤ H) :
    ∃ (a b : Option ByteArray) (A B : List (ByteArray × Ce)) (u v P Q L I : List Nat) (X : List (ByteArray × Ce)), Tr kL (NN pg) (H - j) (dn pg k rt j) a b L I X ∧ inR kL a b k ∧ (∀ i, i ∈ I → i ∈ ids) ∧ I.Nodup ∧ R = A ++ X ++ B ∧ lf = u ++ L ++ v ∧ ids = P ++ I ++ Q ∧ (j = 0 → a = none ∧ b = none ∧ L = lf ∧ I = ids ∧ X = R) ∧
      (∀ (N' : Nat → Nd ByteArray Ce) (L' I' : List Nat) (X' : List (ByteArray × Ce)), (∀ i, i ∈ ids → i ∉ I → N' i = NN pg i) → Tr kL N' (H - j) (dn pg k rt j) a b L' I' X' → Tr kL N' H rt none none (u ++ L' ++ v) (P ++ I' ++ Q) (A ++ X' ++ B)) := by
  by_cases e0 : j = 0
  · subst e0
    exact ⟨none, none, [], [], [], [], [], [], lf, ids, R, h.tr, inR_none, fun i hi => hi, h.nd, by simp, by simp, by simp, fun _ => ⟨rfl, rfl, rfl, rfl, rfl⟩, fun N' L' I' X' _ t => by have t' : Tr kL N' H rt none none L' I' X' := t; simpa using t'⟩
  · obtain ⟨d, hm, hl⟩ := h.at_ k j hj
    obtain ⟨a', b', A, B, u, v, P, Q, L, I, X, tx, hk, e3, e4, e5, -, -, cl⟩ := h.tr.sub kOrd d inR_none
    have nd := h.nd
    rw [e5, List.nodup_append, List.nodup_append] at nd
    refine ⟨a', b', A, B, u, v, P, Q, L, I, X, tx, hk, fun i hi => by rw [e5]; simp [hi], nd.1.2.1, e3, e4, e5, fun e => absurd e e0, fun N' L' I' X' hN t => cl N' L' I' X' (fun i hi => hN i ?_ fun hI => ?_) t⟩
    · rw [e5]; rcases hi with hi | hi <;> simp [hi]
    · rcases hi with hi | hi
      · exact nd.1.2.2 i hi i hI rfl
      · exact nd.2.2 i (by simp [hI]) i hi rfl
end
end Go.Proofs.YtelbioooggnbiaaGreat
namespace Go.Proofs.YtelbioooggnbiaaGreat
open Go.RowKit Go.Maps

section
variable {pg pgc : Nat → Pg} {n : Nat} {ow owc : Nat → Option Int} {sn : Int} {rt H : Nat} {lf ids : List Nat} {R : List (ByteArray × Ce)} {ff : Prop} {k : ByteArray} {c0 c : Ce} {j : Nat} {news : List Nat}
theorem leaf_sides {p : Pg} (h : nodeOk p) {k : ByteArray} (ht : fThere p k = false) : (∀ r, r < fAt p k → kL (p.c r).key k) ∧ ∀ r, fAt p k ≤ r → r < cnt p.c → kL k (p.c r).key := by
  have ff := finds_facts p k h
  refine ⟨fun r hr => ?_, fun r h1 h2 => ?_⟩
  · have := (ff r (Nat.lt_of_lt_of_le hr (fAt_le p k))).2.1
    rw [decide_eq_true hr] at this
    exact this
  · obtain ⟨-, f1, f2⟩ := ff r h2
    rw [decide_eq_false (by omega)] at f1
    rw [ht, Bool.false_and] at f2
    show slt k (p.c r).key = true
    cases hx : slt k (p.c r).key
    · rw [(seq_iff _ _).2 (slt_tri f1 hx)] at f2; cases f2
    · rfl
/-- A page with a cell more. -/
theorem put_facts {p : Pg} {c : Ce} (h : nodeOk p) (h6 : cnt p.c ≠ 6) (ht : fThere p c.key = false) (hc : cellFor p c) :
    putE p c = 0 ∧ nodeOk (putP p c) ∧ cnt (putP p c).c = cnt p.c + 1 ∧ (∀ q, q < cnt p.c + 1 → (putP p c).c q = insF p.c (fAt p c.key) c q) ∧ (putP p c).l = p.l ∧ (putP p c).s = p.s ∧ (putP p c).n = p.n ∧ (putP p c).k = p.k := by
  obtain ⟨e0, eP⟩ := putE_zero hc.says ht h6
  have main := ins_node p c h h6 ht hc
  rw [eP]
  exact ⟨e0, nodeOk_of main.1, main.2.1, fun q hq => ins_c p c (fAt_le p c.key) q (by omega), rfl, rfl, rfl, rfl⟩
/-- Where the next level's cell belongs. -/
theorem mid_place {N' : Nat → Nd ByteArray Ce} {s : ByteArray} {id2 l l2 : Nat} (h : Ix pg n ow sn rt H lf ids R ff) (hj : j < H) (hm : Mid kL (NN pg) N' ids (H - j - 1) (dn pg k rt (j + 1)) k c0 s id2 news l l2) (hs : s.size ≠ 0) :
    fAt (pg (dn pg k rt j)) s = fDown (pg (dn pg k rt j)) k + 1 ∧ fThere (pg (dn pg k rt j)) s = false := by
  obtain ⟨a, b, A, B, u, v, P, Q, L, I, X, t, hk, hI, hd, -⟩ := h.spot k (Nat.le_of_lt hj)
  obtain ⟨-, hmem, hl⟩ := h.at_ k j (Nat.le_of_lt hj)
  have hw := h.way k hj
  rw [show H - j = (H - j - 1) + 1 by omega] at t
  obtain ⟨lA, lB, iA, iB, lfx, idx, rA, rB, rsx, tx, hkx, -, e2, -, -, -, -, -⟩ := t.push kOrd hk hw
  have hsub : ∀ i, i ∈ idx → i ∈ I := fun i hi => by rw [e2]; simp [hi]
  have hdx : idx.Nodup := by
    rw [e2, List.nodup_cons, List.nodup_append, List.nodup_append] at hd
    exact hd.2.1.2.1
  obtain ⟨-, L', I', R', ⟨l1, l2', i1, i2, r1, r2, hin, hlt, -⟩, -⟩ := hm _ _ _ _ _ tx hkx (fun i hi => hI i (hsub i hi)) hdx
  refine fAt_between (h.pgs _ hmem).nd (by rw [hl]; omega) hs hw.1 (fun hq => hlt _ (by unfold Nd.lo; rw [if_neg (by omega)]; rfl)) (fun hq => ?_)
  have h2 := hin.2
  unfold Nd.hi at h2
  rw [if_pos (show fDown (pg (dn pg k rt j)) k + 1 < (NN pg (dn pg k rt j)).n from hq)] at h2
  exact h2 _ rfl
theorem chn_two {nx nx' : Nat → Nat} {L L' : List Nat} {l l2 : Nat} (h : Chn nx L) (hl : LS l l2 L L') (hd : L.Nodup) (h1 : ∀ i, i ∈ L → i ≠ l → nx' i = nx i) (h2 : nx' l = l2) (h3 : nx' l2 = nx l) : Chn nx' L' := by
  obtain ⟨u, v, rfl, rfl⟩ := hl
  refine Chn.two u h (fun i hi => h1 i (by rcases hi with hi | hi <;> simp [hi]) fun e => ?_) h2 h3
  subst e
  rw [List.nodup_append] at hd
  rcases hi with hi | hi
  · exact hd.2.2 i hi i List.mem_cons_self rfl
  · exact (List.nodup_cons.1 hd.2.1).1 hi
theorem perm_ctx {I I' news P Q : List Nat} (h : I'.Perm (news ++ I)) : (P ++ I' ++ Q).Perm (news ++ (P ++ I ++ Q)) := by
  have e1 : (P ++ I' ++ Q).Perm (P ++ (news ++ I) ++ Q) := (h.append_left P).append_right Q
  refine e1.trans ?_
  have : (P ++ (news ++ I)).Perm (news ++ (P ++ I)) := by
    rw [← List.append_assoc, ← List.append_assoc]
    exact List.perm_append_comm.append_right I
  have := this.append_right Q
  rw [List.append_assoc news] at this
  exact this
theorem InsSt.y_not (h : InsSt pg n ow sn rt H lf ids R ff k c0 j c pgc owc news) {i : Nat} (hi : i ∈ ids) : i ∉ news := fun hn => by
  have h1 := (h.nw i hn).2.1
  rw [(h.ix.pgs i hi).ow] at h1
  cases h1
theorem InsSt.nodup_all (h : InsSt pg n ow sn rt H lf ids R ff k c0 j c pgc owc news) : (news ++ ids).Nodup := by
  rw [List.nodup_append]
  exact ⟨h.nd, h.ix.nd, fun a ha b hb e => h.y_not hb (e ▸ ha)⟩
/-- The node takes the cell: all is done. -/
theorem InsSt.fit (h : InsSt pg n ow sn rt H lf ids R ff k c0 j c pgc owc news) (h6 : cnt (pg (dn pg k rt j)).c ≠ 6) :
    (putP (pg (dn pg k rt j)) c).ok ∧ (putP (pg (dn pg k rt j)) c).s = sn ∧ ∃ lf' ids' R', Ix (upd pgc (dn pg k rt j) (putP (pg (dn pg k rt j)) c)) n owc sn rt H lf' ids' R' ff ∧ (ids'.Perm (news ++ ids) ∧ lf'.length ≤ lf.length + 1) ∧ RIns R R' k c0 := by
  obtain ⟨-, hmem, hl⟩ := h.ix.at_ k j h.hj
  have hp := h.ix.pgs _ hmem
  obtain ⟨p1, p2, p3, p4, p5, p6, p7, p8⟩ := put_facts hp.nd h6 h.there h.cell
  have hok : (putP (pg (dn pg k rt j)) c).ok := node_ok_pg p2 (by have := hp.ok.1; unfold Pg.head at this ⊢; rw [p5, p6, p7, p8]; exact this)
  refine ⟨hok, p6.trans hp.s, ?_⟩
  obtain ⟨a, b, A, B, u, v, P, Q, L, I, X, t, hk, hI, hd, eR, eL, eI, -, cl⟩ := h.ix.spot k h.hj
  obtain ⟨pF, hpF⟩ : ∃ pF, pF = upd pgc (dn pg k rt j) (putP (pg (dn pg k rt j)) c) := ⟨_, rfl⟩
  rw [← hpF]
  have eY : pF (dn pg k rt j) = putP (pg (dn pg k rt j)) c := by rw [hpF, upd_at]
  have eO : ∀ i, i ≠ dn pg k rt j → pF i = pgc i := fun i hi => by rw [hpF, upd_ne _ _ hi]
  have hyI := (t.self).1
  have main : (∀ i, i ∈ ids → i ∉ I → NN pF i = NN pg i) ∧ ∃ L' I' X', Tr kL (NN pF) (H - j) (dn pg k rt j) a b L' I' X' ∧ I'.Perm (news ++ I) ∧ RIns X X' k c0 ∧ Chn (fun i => (pF i).n.toNat) (u ++ L' ++ v) ∧ (u ++ L' ++ v).length ≤ lf.length + 1 := by
    by_cases hj : j = H
    · obtain ⟨e1, e2⟩ := h.low hj
      subst e2
      have k0 := h.k0
      have hn0 : news = [] := List.length_eq_zero_iff.1 (by rw [h.len]; omega)
      rw [show H - j = 0 by omega] at t ⊢
      obtain ⟨s1, s2⟩ := leaf_sides hp.nd h.there
      rw [k0] at s1 s2
      have g : (NN pF (dn pg k rt j)) = ndOf (putP (pg (dn pg k rt j)) c) := by show ndOf (pF _) = _; rw [eY]
      obtain ⟨rfl, rfl, X', t', hr⟩ := leaf_put (N' := NN pF) (i := fAt (pg (dn pg k rt j)) k) (c := c) t hk (fAt_le _ _) s1 s2
        (by rw [g]; show (putP _ c).l.toNat = 0; rw [p5, hl]; omega) (by rw [g]; exact p3)
        (fun r hr => by rw [g]; show ((putP _ c).c r).key = _; rw [p4 r hr, insF_app Ce.key, k0]; rfl)
        (fun r hr => by rw [g]; show (putP _ c).c r = _; rw [p4 r hr, k0]; rfl)
      refine ⟨fun i hi hI => ?_, _, _, _, t', by rw [hn0]; exact List.Perm.refl _, hr, ?_, by rw [← eL]; omega⟩
      · show ndOf (pF i) = ndOf (pg i)
        rw [eO i (fun e => hI (by rw [e]; exact hyI)), e1]
      · rw [← eL]
        refine h.ix.ch.same fun i hi => ?_
        show (pF i).n.toNat = _
        by_cases e : i = dn pg k rt j
        · rw [e, eY, p7]
        · rw [eO i e, e1]
    · have hlt : j < H := by have := h.hj; omega
      obtain ⟨s, id2, l, l2, e1, e2, e3, hm, c1, c2, c3, c4, c5⟩ := h.mid hlt
      obtain ⟨q1, q2⟩ := mid_place h.ix hlt hm (by rw [← e1]; exact h.cell.ne)
      have hw := h.ix.way k hlt
      rw [show H - j = (H - j - 1) + 1 by omega] at t ⊢
      have g : (NN pF (dn pg k rt j)) = ndOf (putP (pg (dn pg k rt j)) c) := by show ndOf (pF _) = _; rw [eY]
      rw [e1, q1] at p4
      obtain ⟨f1, L', I', X', t', hper, hr, hls⟩ := Mid.put (N'' := NN pF) kOrd (q := fDown (pg (dn pg k rt j)) k) hm t hk hw hI hd (h.y_not hmem)
        (fun i hi => by show ndOf (pF i) = ndOf (pgc i); rw [eO i hi])
        (by rw [g]; show (putP _ c).l.toNat = _; rw [p5, hl]; omega) (by rw [g]; exact p3)
        (fun r _ hr => by rw [g]; show ((putP _ c).c r).key = _; rw [p4 r hr, insF_app Ce.key, e1]; rfl)
        (fun r hr => by rw [g]; show ((putP _ c).c r).child = _; rw [p4 r hr, insF_app Ce.child, e2]; rfl)
      refine ⟨f1, L', I', X', t', hper, hr, ?_, by have := (hls.ctx u v).len; rw [← eL] at this; omega⟩
      have nl : ∀ i, i ∈ lf ∨ i ∈ news → i ≠ dn pg k rt j := fun i hi e => by
        rcases hi with hi | hi
        · have := (h.ix.lf_mem hi).2
          rw [e, hl] at this
          omega
        · exact h.y_not hmem (e ▸ hi)
      have := hls.ctx u v
      rw [← eL] at this
      refine chn_two h.ix.ch this h.ix.lf_nd (fun i hi hne => ?_) ?_ ?_
      · show (pF i).n.toNat = (pg i).n.toNat
        rw [eO i (nl i (.inl hi)), c5 i hi hne]
      · show (pF l).n.toNat = l2
        rw [eO l (nl l (.inl c1)), c3]; rfl
      · show (pF l2).n.toNat = (pg l).n.toNat
        rw [eO l2 (nl l2 (.inr c2)), c4]
  obtain ⟨m1, L', I', X', t', hper, hr, hch, hll⟩ := main
  have tF := cl (NN pF) L' I' X' m1 t'
  have hper2 := perm_ctx (P := P) (Q := Q) hper
  rw [← eI] at hper2
  have hr2 := hr.ctx A B
  rw [← eR] at hr2
  refine ⟨_, _, _, ⟨tF, hper2.nodup_iff.2 h.nodup_all, fun i hi => ?_, hch, fun hf i hi hrt => ?_, h.ix.hn⟩, ⟨hper2, hll⟩, hr2⟩
  · have hi2 := hper2.mem_iff.1 hi
    by_cases e : i = dn pg k rt j
    · subst e
      have o := (h.old _ hmem).1
      refine ⟨hp.two, hp.lt, ?_, ?_, o.ow, ?_, ?_⟩ <;> rw [eY]
      · exact p2
      · exact hok
      · exact p6.trans hp.s
      · intro h0; rw [p3]; rw [p5] at h0; have := hp.fl h0; omega
    · have o : PgF pgc n owc sn i := by
        rcases List.mem_append.1 hi2 with hx | hx
        · exact (h.nw i hx).1
        · exact (h.old i hx).1
      exact ⟨o.two, o.lt, by rw [eO i e]; exact o.nd, by rw [eO i e]; exact o.ok, o.ow, by rw [eO i e]; exact o.s, by rw [eO i e]; exact o.fl⟩
  · have hi2 := hper2.mem_iff.1 hi
    by_cases e : i = dn pg k rt j
    · subst e
      rw [eY, p3]
      have := h.ix.ff hf _ hmem hrt
      omega
    · rw [eO i e]
      rcases List.mem_append.1 hi2 with hx | hx
      · exact (h.nw i hx).2.2
      · exact (h.old i hx).2 hf hrt
/-- The lower half is chained to the upper one, if they are leaves. -/
def lnk (p : Pg) (id : Nat) : Pg := if p.l = 0 then ⟨p.k, p.l, p.s, (id : Int), p.c⟩ else p
theorem lnk_c (p : Pg) (id : Nat) : (lnk p id).c = p.c ∧ (lnk p id).l = p.l ∧ (lnk p id).s = p.s ∧ (lnk p id).k = p.k := by unfold lnk; split <;> exact ⟨rfl, rfl, rfl, rfl⟩
theorem nodeOk_c {p q : Pg} (h : nodeOk p) (e1 : q.c = p.c) (e2 : q.l = p.l) (e3 : q.k = p.k) : nodeOk q := by
  obtain ⟨k, l, s, n, c⟩ := q
  dsimp only at e1 e2 e3
  subst e1 e2 e3
  exact h
theorem lnk_nd (p : Pg) (id : Nat) : ndOf (lnk p id) = ndOf p := by
  obtain ⟨e1, e2, -⟩ := lnk_c p id
  unfold ndOf
  rw [e1, e2]
/-- What the halves are, as nodes. -/
theorem hv_pages {p : Pg} {c : Ce} {lo hi : Pg} {m id3 : Nat} (hv : Hv p c lo hi m) (hp : p.ok) (hid : id3 < 1024) : (lnk lo id3).ok ∧ hi.ok ∧ nodeOk (lnk lo id3) ∧ (lnk lo id3).s = p.s ∧ hi.s = p.s := by
  obtain ⟨e1, e2, e3, e4⟩ := lnk_c lo id3
  obtain ⟨l1, l2, l3, l4⟩ := hv.lh
  obtain ⟨h1, h2, h3, h4⟩ := hv.hh
  have hd := hp.1
  have n1 : nodeOk (lnk lo id3) := nodeOk_c hv.lok e1 e2 e4
  refine ⟨node_ok_pg n1 ?_, node_ok_pg hv.hok ?_, n1, by rw [e3, l2], h2⟩
  · unfold Pg.head at hd ⊢
    rw [e2, e3, e4, l1, l2, l4]
    refine ⟨hd.1, hd.2.1, hd.2.2.1, hd.2.2.2.1, hd.2.2.2.2.1, hd.2.2.2.2.2.1, ?_⟩
    unfold lnk
    split
    · dsimp only; omega
    · rw [l3]; exact hd.2.2.2.2.2.2
  · unfold Pg.head at hd ⊢
    rw [h1, h2, h3, h4]; exact hd
/-- Whatever tree hung from the node: it is two now. -/
def Halves (pg pF : Nat → Pg) (ids : List Nat) (h y : Nat) (k : ByteArray) (c0 : Ce) (z id3 : Nat) (s : ByteArray) (news : List Nat) (C : List Nat → List Nat → Prop) : Prop :=
  ∀ (a b : Option ByteArray) (L I : List Nat) (X : List (ByteArray × Ce)), Tr kL (NN pg) h y a b L I X → inR kL a b k → (∀ i, i ∈ I → i ∈ ids) → I.Nodup →
    (∀ i, i ∈ ids → i ∉ I → NN pF i = NN pg i) ∧ ∃ L' I' X' J, Two kL (NN pF) h a b z id3 s L' I' X' ∧ I = y :: J ∧ I'.Perm (z :: id3 :: (news ++ J)) ∧ RIns X X' k c0 ∧ C L L'
/-- The two halves of the node of a way, at a page z and a page id3: two trees. -/
theorem InsSt.two (h : InsSt pg n ow sn rt H lf ids R ff k c0 j c pgc owc news) (h6 : cnt (pg (dn pg k rt j)).c = 6) {lo hi : Pg} {m z id3 : Nat} (hv : Hv (pg (dn pg k rt j)) c lo hi m) (pF : Nat → Pg)
    (hz : z = dn pg k rt j ∨ z ∉ ids) (hz2 : z ∉ news) (h3 : id3 ∉ ids) (h32 : id3 ∉ news) (hzi : z ≠ id3) (hs : ∀ i, i ≠ 1 → i ≠ dn pg k rt j → i ≠ z → i ≠ id3 → pF i = pgc i) (hFz : pF z = lnk lo id3) (hFi : pF id3 = hi) :
    (j = H ∧ Halves pg pF ids (H - j) (dn pg k rt j) k c0 z id3 (sepOf (pg (dn pg k rt j))) news (fun L L' => L = [dn pg k rt j] ∧ L' = [z, id3])) ∨
    (j < H ∧ ∃ l l2, Halves pg pF ids (H - j) (dn pg k rt j) k c0 z id3 (sepOf (pg (dn pg k rt j))) news (LS l l2) ∧ l ∈ lf ∧ l2 ∈ news ∧ (pF l).n = (l2 : Int) ∧ (pF l2).n = (pg l).n ∧ ∀ i, i ∈ lf → i ≠ l → (pF i).n = (pg i).n) := by
  obtain ⟨-, hmem, hl⟩ := h.ix.at_ k j h.hj
  have hp := h.ix.pgs _ hmem
  have gz : NN pF z = ndOf lo := by show ndOf (pF z) = _; rw [hFz, lnk_nd]
  have gi : NN pF id3 = ndOf hi := by show ndOf (pF id3) = _; rw [hFi]
  have i2 : ∀ i, i ∈ ids → i ≠ 1 := fun i hi => by have := (h.ix.pgs i hi).two; omega
  have n2 : ∀ i, i ∈ news → i ≠ 1 := fun i hi => by have := (h.nw i hi).1.two; omega
  have neq : ∀ i, i ∈ ids → i ≠ dn pg k rt j → i ≠ z ∧ i ≠ id3 := fun i hi hne => ⟨fun e => by
    rcases hz with hz | hz
    · exact hne (e.trans hz)
    · exact hz (e ▸ hi), fun e => h3 (e ▸ hi)⟩
  have m34 := hv.m34
  by_cases hj : j = H
  · refine .inl ⟨hj, fun a b L I X t hk hI hd => ?_⟩
    have hyI := (t.self).1
    obtain ⟨e1, e2⟩ := h.low hj
    subst e2
    have k0 := h.k0
    have hn0 : news = [] := List.length_eq_zero_iff.1 (by rw [h.len]; omega)
    rw [show H - j = 0 by omega] at t hl ⊢
    obtain ⟨s1, s2⟩ := leaf_sides hp.nd h.there
    rw [k0] at s1 s2
    have hl0 : (pg (dn pg k rt j)).l = 0 := by rw [hl]; rfl
    have hsep := hv.sep
    have hlc := hv.lc
    have hhc := fun q hq => (hv.hc q hq).1 (.inr hl0)
    rw [k0] at hsep hlc hhc
    obtain ⟨rfl, rfl, X', t', hr⟩ := leaf_split (N' := NN pF) (z := z) (id2 := id3) (m := m) (i := fAt (pg (dn pg k rt j)) k) (c := c) kOrd t hk (fAt_le _ _) s1 s2 (by omega) (by show m < cnt _ + 1; omega)
      (by rw [gz]; show lo.l.toNat = 0; rw [hv.lh.1, hl0]; rfl) (by rw [gz]; exact hv.lcnt)
      (fun r hr => by rw [gz]; show (lo.c r).key = _; rw [hlc r hr, insF_app Ce.key, k0]; rfl)
      (fun r hr => by rw [gz]; show lo.c r = _; rw [hlc r hr]; rfl)
      (by rw [gi]; show hi.l.toNat = 0; rw [hv.hh.1, hl0]; rfl) (by rw [gi]; show cnt hi.c = cnt _ + 1 - m; rw [hv.hcnt, h6])
      (fun r hr => by rw [gi]; show (hi.c r).key = _; rw [hhc r (by have : r < cnt (pg (dn pg k rt j)).c + 1 - m := hr; omega), insF_app Ce.key, k0]; rfl)
      (fun r hr => by rw [gi]; show hi.c r = _; rw [hhc r (by have : r < cnt (pg (dn pg k rt j)).c + 1 - m := hr; omega)]; rfl)
    have es : insF (ndOf (pg (dn pg k rt j))).key (fAt (pg (dn pg k rt j)) k) k m = sepOf (pg (dn pg k rt j)) := by
      rw [← hsep, insF_app Ce.key, k0]; rfl
    have es2 : insF (NN pg (dn pg k rt j)).key (fAt (pg (dn pg k rt j)) k) k m = sepOf (pg (dn pg k rt j)) := es
    rw [es2] at t'
    refine ⟨fun i hi hI => ?_, _, _, _, [], t', rfl, by rw [hn0]; exact List.Perm.refl _, hr, ⟨rfl, rfl⟩⟩
    show ndOf (pF i) = ndOf (pg i)
    have hne : i ≠ dn pg k rt j := fun e => hI (by rw [e]; exact hyI)
    rw [hs i (i2 i hi) hne (neq i hi hne).1 (neq i hi hne).2, e1]
  · have hlt : j < H := by have := h.hj; omega
    obtain ⟨s, id2, l, l2, e1, e2, e3, hm, c1, c2, c3, c4, c5⟩ := h.mid hlt
    have nl : ∀ i, i ∈ lf ∨ i ∈ news → pF i = pgc i := fun i hi => by
      have a1 : i ≠ dn pg k rt j := fun e => by
        rcases hi with hi | hi
        · have := (h.ix.lf_mem hi).2
          rw [e, hl] at this
          omega
        · exact h.y_not hmem (e ▸ hi)
      rcases hi with hi | hi
      · have hi2 := (h.ix.lf_mem hi).1
        exact hs i (i2 i hi2) a1 (neq i hi2 a1).1 (neq i hi2 a1).2
      · exact hs i (n2 i hi) a1 (fun e => hz2 (e ▸ hi)) (fun e => h32 (e ▸ hi))
    refine .inr ⟨hlt, l, l2, fun a b L I X t hk hI hd => ?_, c1, c2, (by rw [nl l (.inl c1)]; exact c3), (by rw [nl l2 (.inr c2)]; exact c4), fun i hi hne => by rw [nl i (.inl hi)]; exact c5 i hi hne⟩
    have hyI := (t.self).1
    obtain ⟨q1, q2⟩ := mid_place h.ix hlt hm (by rw [← e1]; exact h.cell.ne)
    have hw := h.ix.way k hlt
    have hln : (pg (dn pg k rt j)).l ≠ 0 := by rw [hl]; omega
    have hsep := hv.sep
    have hlc := hv.lc
    have hhc := hv.hc
    rw [e1, q1] at hsep hlc hhc
    rw [show H - j = (H - j - 1) + 1 by omega] at t ⊢
    -- pages 0 and 1 are no node's: the frame is told over all that the lists have
    have hNN : ∀ i, i ≠ 1 → i ≠ dn pg k rt j → i ≠ z → i ≠ id3 → NN pF i = NN pgc i := fun i g1 g2 g3 g4 => by show ndOf (pF i) = ndOf (pgc i); rw [hs i g1 g2 g3 g4]
    obtain ⟨N1, hN1⟩ : ∃ N1 : Nat → Nd ByteArray Ce, N1 = fun i => if i = 1 then NN pF 1 else NN pgc i := ⟨_, rfl⟩
    have hm1 : Mid kL (NN pg) N1 ids (H - j - 1) ((NN pg (dn pg k rt j)).kid (fDown (pg (dn pg k rt j)) k)) k c0 s id2 news l l2 := by
      intro a b L I X tt hkk hII hdd
      obtain ⟨fr, L', I', X', ⟨l1, l2', i1, i2', r1, r2, hin, hlt2, t1, t2, rfl, rfl, rfl⟩, hp2, hr2, hl2⟩ := hm a b L I X tt hkk hII hdd
      have ne1 : ∀ i, i ∈ i1 ++ i2' → N1 i = NN pgc i := fun i hi => by
        have : i ≠ 1 := by
          rcases List.mem_append.1 (hp2.mem_iff.1 hi) with hx | hx
          · exact n2 i hx
          · exact i2 i (hII i hx)
        rw [hN1]; exact if_neg this
      exact ⟨fun i hi hI => by rw [← fr i hi hI, hN1]; exact if_neg (i2 i hi), _, _, _, ⟨_, _, _, _, _, _, hin, hlt2, t1.frame fun i hi => ne1 i (List.mem_append_left _ hi), t2.frame fun i hi => ne1 i (List.mem_append_right _ hi), rfl, rfl, rfl⟩, hp2, hr2, hl2⟩
    obtain ⟨f1, L', I', X', J, t', eJ, hper, hr, hls⟩ := Mid.split (N'' := NN pF) (z := z) (id3 := id3) (m := m) kOrd (q := fDown (pg (dn pg k rt j)) k) hm1 t hk hw hI hd (h.y_not hmem) hz hz2 h3 h32 (by omega) (by show m < cnt _ + 1; omega)
      (fun i g2 g3 g4 => by
        rw [hN1]
        by_cases e : i = 1
        · rw [e]; exact (if_pos rfl).symm
        · rw [hNN i e g2 g3 g4]; exact (if_neg e).symm)
      (by rw [gz]; show lo.l.toNat = _; rw [hv.lh.1, hl]; omega) (by rw [gz]; exact hv.lcnt)
      (fun r _ hr => by rw [gz]; show (lo.c r).key = _; rw [hlc r hr, insF_app Ce.key, e1]; rfl)
      (fun r hr => by rw [gz]; show (lo.c r).child = _; rw [hlc r hr, insF_app Ce.child, e2]; rfl)
      (by rw [gi]; show hi.l.toNat = _; rw [hv.hh.1, hl]; omega) (by rw [gi]; show cnt hi.c = cnt _ + 1 - m; rw [hv.hcnt, h6])
      (fun r h0 hr => by rw [gi]; show (hi.c r).key = _; rw [(hhc r (by have : r < cnt (pg (dn pg k rt j)).c + 1 - m := hr; omega)).1 (.inl h0), insF_app Ce.key, e1]; rfl)
      (fun r hr => by rw [gi]; show (hi.c r).child = _; rw [(hhc r (by have : r < cnt (pg (dn pg k rt j)).c + 1 - m := hr; omega)).2, insF_app Ce.child, e2]; rfl)
    have es : insF (NN pg (dn pg k rt j)).key (fDown (pg (dn pg k rt j)) k + 1) s m = sepOf (pg (dn pg k rt j)) := by
      rw [← hsep, insF_app Ce.key, e1]; rfl
    rw [es] at t'
    exact ⟨f1, L', I', X', J, t', eJ, hper, hr, hls⟩
theorem len_step {H j x : Nat} {l : List Nat} (h : l.length = H - (j + 1)) (hj : j + 1 ≤ H) : (x :: l).length = H - j := by rw [List.length_cons]; omega
theorem root_l {H : Nat} {x : Int} (h : x = ((H - 0 : Nat) : Int)) : (x + 1).toNat = H + 1 := by omega
theorem ne1_of {i : Nat} (h : 2 ≤ i) : i ≠ 1 := by omega
theorem m34_facts {m : Nat} (h : m = 3 ∨ m = 4) : 3 ≤ m ∧ 3 ≤ 7 - m ∧ 2 ≤ m ∧ 2 ≤ 7 - m := by omega
theorem l_zero {H j : Nat} {x : Int} (hl : x = ((H - j : Nat) : Int)) (e : j = H) : x = 0 := by omega
theorem l_one {H j : Nat} {x : Int} (hl : x = ((H - j : Nat) : Int)) (e : j + 1 ≤ H) : x ≠ 0 := by omega
/-- The lower half stays, the upper one has a page of its own: on with the way up. -/
theorem InsSt.split {j : Nat} (h : InsSt pg n ow sn rt H lf ids R ff k c0 (j + 1) c pgc owc news) (h6 : cnt (pg (dn pg k rt (j + 1))).c = 6) {lo hi : Pg} {m id3 : Nat} (hv : Hv (pg (dn pg k rt (j + 1))) c lo hi m) (pF : Nat → Pg) (ow2 : Nat → Option Int)
    (i2 : 2 ≤ id3) (i3 : id3 < n) (ho : owc id3 = none) (ho2 : ow2 id3 = some sn) (ho3 : ∀ i, i ≠ id3 → ow2 i = owc i) (hs : ∀ i, i ≠ 1 → i ≠ dn pg k rt (j + 1) → i ≠ id3 → pF i = pgc i) (hFz : pF (dn pg k rt (j + 1)) = lnk lo id3) (hFi : pF id3 = hi)
    {c' : Ce} (k1 : c'.key = sepOf (pg (dn pg k rt (j + 1)))) (k2 : c'.child = id3) (k3 : innerCellOk c' 1) :
    InsSt pg n ow sn rt H lf ids R ff k c0 j c' pF ow2 (id3 :: news) := by
  have hjH := h.hj
  obtain ⟨-, hmem, hl⟩ := h.ix.at_ k (j + 1) h.hj
  obtain ⟨-, hmemU, hlU⟩ := h.ix.at_ k j (by omega)
  have hp := h.ix.pgs _ hmem
  have n3 : id3 ∉ ids := fun hx => by have := (h.old id3 hx).1.ow; rw [ho] at this; cases this
  have n4 : id3 ∉ news := fun hx => by have := (h.nw id3 hx).1.ow; rw [ho] at this; cases this
  have hyz : dn pg k rt (j + 1) ≠ id3 := fun e => n3 (e ▸ hmem)
  have T := h.two h6 hv pF (z := dn pg k rt (j + 1)) (.inl rfl) (h.y_not hmem) n3 n4 hyz (fun i g1 g2 _ g3 => hs i g1 g2 g3) hFz hFi
  obtain ⟨g1, g2, g3, g4, g5⟩ := hv_pages hv hp.ok (show id3 < 1024 by have := h.ix.hn; omega)
  have M34 := Lib.hid (m34_facts hv.m34)
  have CL := Lib.hid (lnk_c lo id3)
  have G4 := Lib.hid g4; have G5 := Lib.hid g5
  clear g4 g5
  have sz : (sepOf (pg (dn pg k rt (j + 1)))).size ≠ 0 := by
    have hc := node_cell hp.nd 3 (by omega)
    have e3 := half6 h6
    unfold sepOf
    rw [e3]
    unfold cellOk at hc
    split at hc
    · exact hc.2.1
    · exact fun e => absurd (hc.2.2.1 e) (by decide)
  have mid : ∃ (l l2 : Nat), Mid kL (NN pg) (NN pF) ids (H - j - 1) (dn pg k rt (j + 1)) k c0 (sepOf (pg (dn pg k rt (j + 1)))) id3 (id3 :: news) l l2 ∧ l ∈ lf ∧ l2 ∈ id3 :: news ∧ (pF l).n = (l2 : Int) ∧ (pF l2).n = (pg l).n ∧ ∀ i, i ∈ lf → i ≠ l → (pF i).n = (pg i).n := by
    have perm : ∀ {I' J : List Nat}, I'.Perm (dn pg k rt (j + 1) :: id3 :: (news ++ J)) → I'.Perm (id3 :: news ++ dn pg k rt (j + 1) :: J) := fun {I' J} hp => by
      refine hp.trans ((List.Perm.swap _ _ _).trans ?_)
      rw [List.cons_append]
      exact (List.perm_middle.symm).cons _
    rcases T with ⟨e, T⟩ | ⟨hlt, l, l2, T, c1, c2, c3, c4, c5⟩
    · refine ⟨dn pg k rt (j + 1), id3, fun a b L I X t hk hI hd => ?_, ?_, List.mem_cons_self, ?_, ?_, fun i hi hne => ?_⟩
      · rw [show H - j - 1 = H - (j + 1) by omega] at t ⊢
        obtain ⟨f1, L', I', X', J, t2, rfl, hper, hr, rfl, rfl⟩ := T a b L I X t hk hI hd
        exact ⟨f1, _, I', X', t2, perm hper, hr, [], [], rfl, rfl⟩
      · obtain ⟨u, v, e1, -⟩ := h.ix.leaf k
        rw [e1, e]; simp
      · rw [hFz]
        unfold lnk
        rw [if_pos (hv.lh.1.trans (l_zero hl e))]
      · rw [hFi]; exact hv.hh.2.2.1
      · have hi2 := (h.ix.lf_mem hi).1
        rw [hs i (ne1_of (h.ix.pgs i hi2).two) hne (fun e => n3 (e ▸ hi2)), (h.low e).1]
    · refine ⟨l, l2, fun a b L I X t hk hI hd => ?_, c1, List.mem_cons_of_mem _ c2, c3, c4, c5⟩
      rw [show H - j - 1 = H - (j + 1) by omega] at t ⊢
      obtain ⟨f1, L', I', X', J, t2, rfl, hper, hr, hls⟩ := T a b L I X t hk hI hd
      exact ⟨f1, _, I', X', t2, perm hper, hr, hls⟩
  obtain ⟨l, l2, hm, d1, d2, d3, d4, d5⟩ := mid
  have pl := mid_place h.ix (by omega) hm sz
  refine ⟨h.ix, by omega, h.k0, ?_, by rw [k1]; exact pl.2, fun i hi => ?_, List.nodup_cons.2 ⟨n4, h.nd⟩, len_step h.len hjH, fun i hi => ?_, fun i e1 e2 e3 => ?_, fun i hi => ?_, fun e => by omega, fun _ => ⟨_, id3, l, l2, k1, k2, List.mem_cons_self, hm, d1, d2, d3, d4, d5⟩⟩
  · unfold cellFor
    rw [if_neg (l_one hlU hjH)]
    exact k3
  · rcases List.mem_cons.1 hi with rfl | hi
    · refine ⟨⟨i2, i3, ?_, ?_, ho2, ?_, ?_⟩, ?_, ?_⟩
      · rw [hFi]; exact hv.hok
      · rw [hFi]; exact g2
      · rw [hFi, G5.out]; exact hp.s
      · intro _; rw [hFi, hv.hcnt]; exact M34.out.2.2.2
      · by_cases hx : i ∈ news
        · exact absurd hx n4
        · rw [← h.owo i hx]; exact ho
      · rw [hFi, hv.hcnt]; exact M34.out.2.1
    · obtain ⟨o, o2, o3⟩ := h.nw i hi
      have e1 : i ≠ id3 := fun e => n4 (e ▸ hi)
      have e2 : i ≠ dn pg k rt (j + 1) := fun e => h.y_not hmem (e ▸ hi)
      have e4 : pF i = pgc i := hs i (ne1_of o.two) e2 e1
      exact ⟨⟨o.two, o.lt, by rw [e4]; exact o.nd, by rw [e4]; exact o.ok, by rw [ho3 i e1]; exact o.ow, by rw [e4]; exact o.s, by rw [e4]; exact o.fl⟩, o2, by rw [e4]; exact o3⟩
  · obtain ⟨o, o3⟩ := h.old i hi
    have e1 : i ≠ id3 := fun e => n3 (e ▸ hi)
    by_cases e2 : i = dn pg k rt (j + 1)
    · subst e2
      refine ⟨⟨o.two, o.lt, ?_, ?_, by rw [ho3 _ e1]; exact o.ow, ?_, ?_⟩, ?_⟩
      · rw [hFz]; exact g3
      · rw [hFz]; exact g1
      · rw [hFz, G4.out]; exact hp.s
      · intro _; rw [hFz, CL.out.1, hv.lcnt]; exact M34.out.2.2.1
      · intro _ _; rw [hFz, CL.out.1, hv.lcnt]; exact M34.out.1
    · have e4 : pF i = pgc i := hs i (ne1_of o.two) e2 e1
      exact ⟨⟨o.two, o.lt, by rw [e4]; exact o.nd, by rw [e4]; exact o.ok, by rw [ho3 i e1]; exact o.ow, by rw [e4]; exact o.s, by rw [e4]; exact o.fl⟩, by rw [e4]; exact o3⟩
  · have a1 : i ∉ news := fun hx => e3 (List.mem_cons_of_mem _ hx)
    rw [hs i e1 (fun e => e2 (e ▸ hmem)) (fun e => e3 (e ▸ List.mem_cons_self))]
    exact h.out i e1 e2 a1
  · rw [ho3 i (fun e => hi (e ▸ List.mem_cons_self))]
    exact h.owo i fun hx => hi (List.mem_cons_of_mem _ hx)
/-- The root becomes a node over two pages of their own. -/
def rootP (p : Pg) (c1 c2 : Ce) : Pg := ⟨4, p.l + 1, p.s, 0, fun q => if q = 0 then c1 else if q = 1 then c2 else czero⟩
theorem rootP_cnt (p : Pg) {c1 c2 : Ce} (h1 : c1.st = 1) (h2 : c2.st = 1) : cnt (rootP p c1 c2).c = 2 := cnt_eq _ 2 (by omega) (fun q hq => by
    unfold rootP
    rcases (show q = 0 ∨ q = 1 by omega) with rfl | rfl
    · show c1.st ≠ 0; rw [h1]; decide
    · show c2.st ≠ 0; rw [h2]; decide) (fun _ => rfl)
theorem rootP_ok {p : Pg} {c1 c2 : Ce} (hp : 0 ≤ p.l) (h1 : innerCellOk c1 0) (h2 : innerCellOk c2 1) (h0 : c1.key.size = 0) (h3 : c2.key.size ≠ 0) : nodeOk (rootP p c1 c2) :=
  nodeOk_of (mk_node (rootP p c1 c2) 2 (by omega) rfl (by show 0 ≤ p.l + 1; omega) (fun _ => by omega) (fun q hq => by
    rw [cellOk_inner (show (rootP p c1 c2).l ≠ 0 from by show p.l + 1 ≠ 0; omega)]
    rcases (show q = 0 ∨ q = 1 by omega) with rfl | rfl
    · exact h1
    · exact h2) (fun q h1 h2 => by
    have : (rootP p c1 c2).c q = czero := by show (if q = 0 then c1 else if q = 1 then c2 else czero) = _; rw [if_neg (by omega), if_neg (by omega)]
    rw [this]; exact czero_free) (fun q hq => by
    obtain rfl : q = 0 := by omega
    show slt c1.key c2.key = true
    rw [(ba_empty_iff _).2 h0]
    exact empty_lt _ h3)).1
theorem InsSt.deep (h : InsSt pg n ow sn rt H lf ids R ff k c0 0 c pgc owc news) (h6 : cnt (pg rt).c = 6) {lo hi : Pg} {m le ri : Nat} (hv : Hv (pg rt) c lo hi m) (pF : Nat → Pg) (ow2 : Nat → Option Int) (hne : le ≠ ri)
    (i2 : 2 ≤ le ∧ le < n ∧ owc le = none ∧ ow2 le = some sn) (i3 : 2 ≤ ri ∧ ri < n ∧ owc ri = none ∧ ow2 ri = some sn) (ho3 : ∀ i, i ≠ le → i ≠ ri → ow2 i = owc i) (hs : ∀ i, i ≠ 1 → i ≠ rt → i ≠ le → i ≠ ri → pF i = pgc i) (hFz : pF le = lnk lo ri) (hFi : pF ri = hi)
    {c1 c2 : Ce} (k0 : c1.key.size = 0) (k1 : c1.child = le) (k2 : innerCellOk c1 0) (k3 : c2.key = sepOf (pg rt)) (k4 : c2.child = ri) (k5 : innerCellOk c2 1) (hFr : pF rt = rootP (pg rt) c1 c2) :
    (pF rt).ok ∧ ∃ lf' ids' R', Ix pF n ow2 sn rt (H + 1) lf' ids' R' ff ∧ (ids'.Perm (le :: ri :: (news ++ ids)) ∧ lf'.length ≤ lf.length + 1) ∧ RIns R R' k c0 := by
  obtain ⟨-, hmem, hl⟩ := h.ix.at_ k 0 h.hj
  change rt ∈ ids at hmem
  change (pg rt).l = _ at hl
  have hp := h.ix.pgs _ hmem
  have n1 : le ∉ ids := fun hx => by have := (h.old le hx).1.ow; rw [i2.2.2.1] at this; cases this
  have n2 : le ∉ news := fun hx => by have := (h.nw le hx).1.ow; rw [i2.2.2.1] at this; cases this
  have n3 : ri ∉ ids := fun hx => by have := (h.old ri hx).1.ow; rw [i3.2.2.1] at this; cases this
  have n4 : ri ∉ news := fun hx => by have := (h.nw ri hx).1.ow; rw [i3.2.2.1] at this; cases this
  have T := h.two h6 hv pF (z := le) (.inr n1) n2 n3 n4 hne (fun i g1 g2 g3 g4 => hs i g1 g2 g3 g4) hFz hFi
  obtain ⟨g1, g2, g3, g4, g5⟩ := hv_pages hv hp.ok (show ri < 1024 by have := h.ix.hn; omega)
  have M34 := Lib.hid (m34_facts hv.m34)
  have CL := Lib.hid (lnk_c lo ri)
  have G4 := Lib.hid g4; have G5 := Lib.hid g5
  clear g4 g5
  have sz : c2.key.size ≠ 0 := fun e => absurd (k5.2.2.1 e) (by decide)
  have rk := rootP_ok (p := pg rt) (by rw [hl]; omega) k2 k5 k0 sz
  have rc := rootP_cnt (pg rt) k2.1 k5.1
  have H9 := h.ix.high
  have rok : (rootP (pg rt) c1 c2).ok := node_ok_pg rk (by
    have := hp.ok.1
    unfold Pg.head at this ⊢
    unfold rootP
    dsimp only
    rw [hl] at this ⊢
    omega)
  refine ⟨by rw [hFr]; exact rok, ?_⟩
  have gr : NN pF rt = ndOf (rootP (pg rt) c1 c2) := by show ndOf (pF rt) = _; rw [hFr]
  have nlf : ∀ i, i ∈ lf → i ∈ ids ∧ i ≠ 1 ∧ i ≠ le ∧ i ≠ ri := fun i hi => by
    have hi2 := (h.ix.lf_mem hi).1
    exact ⟨hi2, ne1_of (h.ix.pgs i hi2).two, fun e => n1 (e ▸ hi2), fun e => n3 (e ▸ hi2)⟩
  have main : ∃ L' I' X' J, Two kL (NN pF) H none none le ri (sepOf (pg rt)) L' I' X' ∧ ids = rt :: J ∧ I'.Perm (le :: ri :: (news ++ J)) ∧ RIns R X' k c0 ∧ Chn (fun i => (pF i).n.toNat) L' ∧ L'.length ≤ lf.length + 1 := by
    rcases T with ⟨e, T⟩ | ⟨hlt, l, l2, T, c1, c2, c3, c4, c5⟩
    · obtain ⟨f1, L', I', X', J, t2, eJ, hper, hr, e1, rfl⟩ := T none none lf ids R h.ix.tr inR_none (fun i hi => hi) h.ix.nd
      change lf = [rt] at e1
      refine ⟨_, I', X', J, t2, eJ, hper, hr, ⟨?_, ?_⟩, by rw [e1]; exact Nat.le_refl 2⟩
      · show (pF le).n.toNat = ri
        rw [hFz]
        unfold lnk
        rw [if_pos (hv.lh.1.trans (l_zero hl e))]
        rfl
      · show (pF ri).n.toNat = 0
        have hch := h.ix.ch
        rw [e1] at hch
        have h0 : (pg rt).n.toNat = 0 := hch
        rw [hFi, hv.hh.2.2.1]
        exact h0
    · obtain ⟨f1, L', I', X', J, t2, eJ, hper, hr, hls⟩ := T none none lf ids R h.ix.tr inR_none (fun i hi => hi) h.ix.nd
      refine ⟨_, I', X', J, t2, eJ, hper, hr, chn_two h.ix.ch hls h.ix.lf_nd (fun i hi hne => ?_) ?_ ?_, by have := hls.len; omega⟩
      · show (pF i).n.toNat = (pg i).n.toNat
        rw [c5 i hi hne]
      · show (pF l).n.toNat = l2
        rw [c3]; rfl
      · show (pF l2).n.toNat = (pg l).n.toNat
        rw [c4]
  obtain ⟨L', I', X', J, t2, eJ, hper, hr, hch, hll⟩ := main
  have tF := t2.root (rt := rt) (by rw [gr]; exact root_l hl) (by rw [gr]; exact rc) (by rw [gr]; exact k3) ⟨by rw [gr]; exact k1, by rw [gr]; exact k4⟩
  have hper2 : (rt :: I').Perm (le :: ri :: (news ++ ids)) := by
    refine (hper.cons rt).trans ?_
    rw [eJ]
    refine (List.Perm.swap _ _ _).trans ((((List.Perm.swap _ _ _).trans ?_)).cons _)
    exact (List.perm_middle.symm).cons _
  have ndall : (le :: ri :: (news ++ ids)).Nodup := by
    rw [List.nodup_cons, List.nodup_cons]
    refine ⟨fun hx => ?_, fun hx => ?_, h.nodup_all⟩
    · rcases List.mem_cons.1 hx with hx | hx
      · exact hne hx
      · rcases List.mem_append.1 hx with hx | hx
        · exact n2 hx
        · exact n1 hx
    · rcases List.mem_append.1 hx with hx | hx
      · exact n4 hx
      · exact n3 hx
  have all : ∀ i, i ∈ rt :: I' → PgF pF n ow2 sn i ∧ (ff → i ≠ rt → 3 ≤ cnt (pF i).c) := fun i hi => by
    rcases List.mem_cons.1 (hper2.mem_iff.1 hi) with rfl | hi
    · exact ⟨⟨i2.1, i2.2.1, by rw [hFz]; exact g3, by rw [hFz]; exact g1, i2.2.2.2, by rw [hFz, G4.out]; exact hp.s, fun _ => by rw [hFz, CL.out.1, hv.lcnt]; exact M34.out.2.2.1⟩, fun _ _ => by rw [hFz, CL.out.1, hv.lcnt]; exact M34.out.1⟩
    rcases List.mem_cons.1 hi with rfl | hi3
    · exact ⟨⟨i3.1, i3.2.1, by rw [hFi]; exact hv.hok, by rw [hFi]; exact g2, i3.2.2.2, by rw [hFi, G5.out]; exact hp.s, fun _ => by rw [hFi, hv.hcnt]; exact M34.out.2.2.2⟩, fun _ _ => by rw [hFi, hv.hcnt]; exact M34.out.2.1⟩
    have e1 : i ≠ le ∧ i ≠ ri := by
      constructor
      · intro e
        rcases List.mem_append.1 hi3 with hx | hx
        · exact n2 (e ▸ hx)
        · exact n1 (e ▸ hx)
      · intro e
        rcases List.mem_append.1 hi3 with hx | hx
        · exact n4 (e ▸ hx)
        · exact n3 (e ▸ hx)
    by_cases er : i = rt
    · subst er
      exact ⟨⟨hp.two, hp.lt, by rw [hFr]; exact rk, by rw [hFr]; exact rok, by rw [ho3 _ e1.1 e1.2]; exact (h.old _ hmem).1.ow, by rw [hFr]; exact hp.s, fun _ => by rw [hFr, rc]; exact Nat.le_refl 2⟩, fun _ hc => absurd rfl hc⟩
    · rcases List.mem_append.1 hi3 with hx | hx
      · obtain ⟨o, -, o3⟩ := h.nw i hx
        have e4 : pF i = pgc i := hs i (ne1_of o.two) er e1.1 e1.2
        exact ⟨⟨o.two, o.lt, by rw [e4]; exact o.nd, by rw [e4]; exact o.ok, by rw [ho3 i e1.1 e1.2]; exact o.ow, by rw [e4]; exact o.s, by rw [e4]; exact o.fl⟩, fun _ _ => by rw [e4]; exact o3⟩
      · obtain ⟨o, o3⟩ := h.old i hx
        have e4 : pF i = pgc i := hs i (ne1_of o.two) er e1.1 e1.2
        exact ⟨⟨o.two, o.lt, by rw [e4]; exact o.nd, by rw [e4]; exact o.ok, by rw [ho3 i e1.1 e1.2]; exact o.ow, by rw [e4]; exact o.s, by rw [e4]; exact o.fl⟩, by rw [e4]; exact o3⟩
  exact ⟨_, _, _, ⟨tF, hper2.nodup_iff.2 ndall, fun i hi => (all i hi).1, hch, fun hf i hi hrt => (all i hi).2 hf hrt, h.ix.hn⟩, ⟨hper2, hll⟩, hr⟩
end
end Go.Proofs.YtelbioooggnbiaaGreat
