/- A node, plain. -/
import Derived.Test.YtelbioooggnbiaaGreatNodRef2
set_option linter.unusedVariables false
set_option linter.unusedSimpArgs false
namespace Go.Proofs.YtelbioooggnbiaaGreat
open Go.RowKit

theorem bl_irrefl : ∀ l : List UInt8, Op.bytesLess l l = false
  | [] => rfl
  | a :: l => by simp [Op.bytesLess, bl_irrefl l]
theorem bl_asymm : ∀ a b : List UInt8, Op.bytesLess a b = true → Op.bytesLess b a = false
  | _, [] => fun h => by simp [Op.bytesLess] at h
  | [], _ :: _ => fun _ => rfl
  | a :: x, b :: y => fun h => by
    simp only [Op.bytesLess, Bool.or_eq_true, Bool.and_eq_true, decide_eq_true_eq, beq_iff_eq] at h
    rcases h with h | ⟨rfl, h⟩
    · have h1 : ¬ b < a := fun k => by rw [UInt8.lt_iff_toNat_lt] at h k; omega
      have h2 : ¬ b = a := fun k => by subst k; rw [UInt8.lt_iff_toNat_lt] at h; omega
      simp [Op.bytesLess, h1, h2]
    · simp [Op.bytesLess, bl_asymm x y h]
theorem bl_trans : ∀ a b c : List UInt8, Op.bytesLess a b = true → Op.bytesLess b c = true → Op.bytesLess a c = true
  | _, [], _ => fun h => by simp [Op.bytesLess] at h
  | _, _ :: _, [] => fun _ h => by simp [Op.bytesLess] at h
  | [], _ :: _, _ :: _ => fun _ _ => rfl
  | a :: x, b :: y, c :: z => fun h k => by
    simp only [Op.bytesLess, Bool.or_eq_true, Bool.and_eq_true, decide_eq_true_eq, beq_iff_eq] at h k ⊢
    rcases h with h | ⟨rfl, h⟩
    · rcases k with k | ⟨rfl, k⟩
      · left; rw [UInt8.lt_iff_toNat_lt] at *; omega
      · exact .inl h
    · rcases k with k | ⟨rfl, k⟩
      · exact .inl k
      · exact .inr ⟨rfl, bl_trans x y z h k⟩
theorem bl_tri : ∀ a b : List UInt8, Op.bytesLess a b = false → Op.bytesLess b a = false → a = b
  | [], [] => fun _ _ => rfl
  | _ :: _, [] => fun _ k => by simp [Op.bytesLess] at k
  | [], _ :: _ => fun h _ => by simp [Op.bytesLess] at h
  | a :: x, b :: y => fun h k => by
    simp only [Op.bytesLess, Bool.or_eq_false_iff, Bool.and_eq_false_iff, decide_eq_false_iff_not, beq_eq_false_iff_ne] at h k
    have e : a = b := by
      have h1 := h.1; have k1 := k.1
      rw [UInt8.lt_iff_toNat_lt] at h1 k1
      exact UInt8.toNat_inj.1 (by omega)
    subst e
    rcases h.2 with h2 | h2
    · exact absurd rfl h2
    · rcases k.2 with k2 | k2
      · exact absurd rfl k2
      · rw [bl_tri x y h2 k2]
theorem seq_iff (a b : ByteArray) : seq a b = true ↔ a = b := by
  constructor
  · intro h
    by_cases e : a = b
    · exact e
    · have := str_ne e; unfold seq at h; rw [this] at h; cases h
  · intro h; exact str_eq_ h
theorem slt_irrefl (a : ByteArray) : slt a a = false := bl_irrefl _
theorem slt_asymm {a b : ByteArray} (h : slt a b = true) : slt b a = false := bl_asymm _ _ h
theorem slt_trans {a b c : ByteArray} (h : slt a b = true) (k : slt b c = true) : slt a c = true := bl_trans _ _ _ h k
theorem slt_tri {a b : ByteArray} (h : slt a b = false) (k : slt b a = false) : a = b := by
  have := bl_tri _ _ h k
  exact (seq_iff a b).1 (by unfold seq; rw [this]; simp)
/-- The document's own 'key <= before'. -/
theorem sle_not (a b : ByteArray) : (slt a b || seq a b) = !(slt b a) := by
  cases h : slt b a
  · cases k : slt a b
    · have e := slt_tri k h
      rw [(seq_iff a b).2 e]; rfl
    · rfl
  · rw [slt_asymm h]
    have : seq a b = false := by
      cases k : seq a b
      · rfl
      · have e := (seq_iff a b).1 k; subst e; rw [slt_irrefl] at h; cases h
    rw [this]; rfl

/-- The cell at a place, ahead of the first free one. -/
def cellOk (p : Pg) (q : Nat) : Prop := (if p.l = 0 then leafCellOk (p.c q) else innerCellOk (p.c q) q)
instance (p : Pg) (q : Nat) : Decidable (cellOk p q) := by unfold cellOk; infer_instance
def okAt (p : Pg) (q : Nat) : Prop := if cnt p.c ≤ q then (p.c q).st = 0 ∧ (p.c q).d.size = 0 else cellOk p q ∧ (0 < q → slt (p.c (q - 1)).key (p.c q).key = true)
instance (p : Pg) (q : Nat) : Decidable (okAt p q) := by unfold okAt; infer_instance
def nodeOk (p : Pg) : Prop := (p.k = 4 ∧ 0 ≤ p.l ∧ (0 < p.l → cnt p.c ≠ 0)) ∧ ∀ q, q < 6 → okAt p q
instance (p : Pg) : Decidable (nodeOk p) := by unfold nodeOk; infer_instance
def nodeE (p : Pg) : Int := if nodeOk p then 0 else 40
theorem okAt_out {p : Pg} {q : Nat} (h : cnt p.c ≤ q) : okAt p q ↔ (p.c q).st = 0 ∧ (p.c q).d.size = 0 := by unfold okAt; rw [if_pos h]
theorem okAt_in {p : Pg} {q : Nat} (h : q < cnt p.c) : okAt p q ↔ cellOk p q ∧ (0 < q → slt (p.c (q - 1)).key (p.c q).key = true) := by unfold okAt; rw [if_neg (by omega)]
theorem cellOk_leaf {p : Pg} {q : Nat} (h : p.l = 0) : cellOk p q ↔ leafCellOk (p.c q) := by unfold cellOk; rw [if_pos h]
theorem cellOk_inner {p : Pg} {q : Nat} (h : p.l ≠ 0) : cellOk p q ↔ innerCellOk (p.c q) q := by unfold cellOk; rw [if_neg h]
end Go.Proofs.YtelbioooggnbiaaGreat
