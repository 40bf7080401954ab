/- Cells of nodes, plain: what a cell says. -/
import Derived.Test.YtedoechjjcbeeaaOctRd2
import Derived.Test.YtedoechjjcbeeaaPgPlain
set_option linter.unusedVariables false
set_option linter.unusedSimpArgs false
namespace Go.Proofs.Ytedoechjjcbeeaa
open Go.RowKit

theorem ex_size5 (s : ByteArray) (a b : Nat) (h : b ≤ s.size) : (s.extract a b).size = b - a := by simp; omega
theorem ex_ex5 (s : ByteArray) (a b c d : Nat) (h : a + d ≤ b) : (s.extract a b).extract c d = s.extract (a + c) (a + d) := by
  rw [ByteArray.extract_extract]
  congr 1
  omega
theorem ba_empty_iff (d : ByteArray) : d = ⟨#[]⟩ ↔ d.size = 0 := by
  constructor
  · intro h; rw [h]; rfl
  · intro h; exact ByteArray.ext (Array.eq_empty_of_size_eq_zero h)

theorem below_grown {B g : Nat} {a b c : World} (h : Below B a b) (k : b.grownBy c (some g)) (hg : B ≤ g) (hB : B ≤ b.heap.size) : Below B a c :=
  ⟨k.os.trans h.os, k.tape.trans h.tape, k.output.trans h.output, Nat.le_trans h.size k.size, fun i hi => (k.block i (by omega) (by simp; omega)).trans (h.block i hi)⟩

/-- The first byte. -/
def n1 (d : ByteArray) : Nat := Oct.sval (d.extract 0 1)
theorem n1_get (d : ByteArray) (h : 0 < d.size) : (d[0]).toNat = n1 d := by
  have h1 : (d.extract 0 1).size = 1 := by rw [ex_size5 _ _ _ (by omega)]
  have h2 : (d.extract 0 1)[0] = d[0] := by rw [ByteArray.getElem_extract]
  have h3 := Oct.valFrom_pred (d.extract 0 1) 0 (by omega)
  rw [Oct.valFrom_zero] at h3
  have h4 : Oct.valFrom (d.extract 0 1) (0 + 1) = 0 := by have := Oct.valFrom_size (d.extract 0 1); rw [h1] at this; exact this
  rw [h4, h2] at h3
  unfold n1; omega
theorem n1_lt (d : ByteArray) : n1 d < 256 := by
  unfold n1
  have h := Oct.sval_lt (d.extract 0 1)
  have h2 : (d.extract 0 1).size ≤ 1 := by rw [ByteArray.size_extract]; omega
  have h3 : 256 ^ (d.extract 0 1).size ≤ 256 ^ 1 := Nat.pow_le_pow_right (by omega) h2
  omega
/-- Does it hold a text ahead? -/
def Tx (d : ByteArray) : Prop := n1 d + 1 ≤ d.size
instance (d : ByteArray) : Decidable (Tx d) := by unfold Tx; infer_instance
def tkey (d : ByteArray) : ByteArray := d.extract 1 (1 + n1 d)
def trest (d : ByteArray) : ByteArray := d.extract (1 + n1 d) d.size
theorem tkey_size {d : ByteArray} (h : Tx d) : (tkey d).size = n1 d := by
  unfold Tx at h; unfold tkey; rw [ex_size5 _ _ _ (by omega)]; omega
theorem trest_size (d : ByteArray) : (trest d).size = d.size - (1 + n1 d) := by unfold trest; rw [ex_size5 _ _ _ (Nat.le_refl _)]
theorem rnum_some (d : ByteArray) (h : 0 < d.size) : Oct.rnum (some d) 1 = (n1 d, some (d.extract 1 d.size)) := by
  have hr : Oct.rbytes (some d) 1 = (d.extract 0 1, some (d.extract 1 d.size)) := by
    simp only [Oct.rbytes]
    rw [if_neg (by omega)]
    rfl
  simp only [Oct.rnum]
  rw [if_neg (by omega), hr]
  simp only [Oct.nval]
  rw [if_pos (by rw [ex_size5 _ _ _ (by omega)]; omega)]
  rfl
theorem rtext_yes (d : ByteArray) (h : Tx d) : Oct.rtext (some d) = (tkey d, some (trest d)) := by
  have h0 : 0 < d.size := by unfold Tx at h; omega
  have hz : (d.extract 1 d.size).size = d.size - 1 := ex_size5 _ _ _ (Nat.le_refl _)
  unfold Oct.rtext
  rw [rnum_some d h0]
  unfold Tx at h
  simp only [Oct.rbytes]
  rw [if_neg (by rw [hz]; omega), hz]
  simp only [Int.toNat_natCast]
  rw [ex_ex5 _ _ _ _ _ (by omega), ex_ex5 _ _ _ _ _ (by omega)]
  unfold tkey trest
  rw [show 1 + (d.size - 1) = d.size by omega]
theorem rtext_no (d : ByteArray) (h : ¬ Tx d) : Oct.rtext (some d) = (⟨#[]⟩, none) := by
  unfold Tx at h
  by_cases h0 : 0 < d.size
  · have hz : (d.extract 1 d.size).size = d.size - 1 := ex_size5 _ _ _ (Nat.le_refl _)
    unfold Oct.rtext
    rw [rnum_some d h0]
    simp only [Oct.rbytes]
    rw [if_pos (by rw [hz]; omega)]
  · obtain rfl := (ba_empty_iff d).2 (by omega)
    rfl
/-- Does it say a key? -/
def Ce.says (c : Ce) : Prop := c.st ≠ 0 ∧ Tx c.d ∧ n1 c.d ≤ 8
instance (c : Ce) : Decidable c.says := by unfold Ce.says; infer_instance
def Ce.key (c : Ce) : ByteArray := if c.says then tkey c.d else ⟨#[]⟩
def Ce.rst (c : Ce) : ByteArray := if c.says then trest c.d else ⟨#[]⟩
theorem Ce.key_yes {c : Ce} (h : c.says) : c.key = tkey c.d := if_pos h
theorem Ce.rst_yes {c : Ce} (h : c.says) : c.rst = trest c.d := if_pos h
theorem Ce.key_no {c : Ce} (h : ¬ c.says) : c.key = ⟨#[]⟩ := if_neg h
theorem Ce.rst_no {c : Ce} (h : ¬ c.says) : c.rst = ⟨#[]⟩ := if_neg h
theorem Ce.key_size (c : Ce) : c.key.size ≤ 8 := by
  by_cases h : c.says
  · rw [Ce.key_yes h, tkey_size h.2.1]; exact h.2.2
  · rw [Ce.key_no h]; exact Nat.zero_le _
theorem Ce.rst_size (c : Ce) : c.rst.size ≤ c.d.size := by
  by_cases h : c.says
  · rw [Ce.rst_yes h, trest_size]; omega
  · rw [Ce.rst_no h]; exact Nat.zero_le _
/-- Its child, or 0. -/
def Ce.child (c : Ce) : Nat := if c.says ∧ c.rst.size = 4 ∧ 1 ≤ Oct.sval c.rst ∧ Oct.sval c.rst < 1024 then Oct.sval c.rst else 0
/-- A cell's bytes. -/
def dat (key rest : ByteArray) : ByteArray := Oct.text key ++ rest
def tdat (key rest : ByteArray) : ByteArray := Oct.text key ++ rest
end Go.Proofs.Ytedoechjjcbeeaa
