/- The map's bits, plain. -/
import Derived.Test.YtdhfcjplnbnkdaaStgSS
set_option linter.unusedVariables false
set_option linter.unusedSimpArgs false
namespace Go.Proofs.Ytdhfcjplnbnkdaa
open Go.RowKit

/-- Bit i of some bytes. -/
def bitOf (d : ByteArray) (i : Nat) : Bool := (d.data.getD (i / 8) 0).toNat.testBit (i % 8)
def clrN (x k : Nat) : Nat := x &&& (255 - 2 ^ k)
def setN (x k : Nat) (on : Bool) : Nat := if on then clrN x k ||| 2 ^ k else clrN x k
theorem and_tab : ∀ (x : Fin 256) (k : Fin 8), (bits .and .u8 ((x.val : Int) / 2 ^ k.val) 1 == 1) = x.val.testBit k.val := by decide +kernel
theorem clr_tab : ∀ (x : Fin 256) (k : Fin 8), bits .andNot .u8 (x.val : Int) (2 ^ k.val) = (clrN x.val k.val : Int) := by decide +kernel
theorem or_tab : ∀ (x : Fin 256) (k : Fin 8), bits .or .u8 (x.val : Int) (2 ^ k.val) = ((x.val ||| 2 ^ k.val : Nat) : Int) := by decide +kernel
theorem setN_tab : ∀ (x : Fin 256) (k : Fin 8), clrN x.val k.val < 256 ∧ (clrN x.val k.val ||| 2 ^ k.val) < 256 := by decide +kernel
theorem and_bit (x : UInt8) (k : Nat) (hk : k < 8) : (bits .and .u8 ((x.toNat : Int) / 2 ^ k) 1 == 1) = x.toNat.testBit k := and_tab ⟨x.toNat, x.toNat_lt⟩ ⟨k, hk⟩
theorem clr_bit (x : UInt8) (k : Nat) (hk : k < 8) : bits .andNot .u8 (x.toNat : Int) (2 ^ k) = (clrN x.toNat k : Int) := clr_tab ⟨x.toNat, x.toNat_lt⟩ ⟨k, hk⟩
theorem or_bit (x : Nat) (k : Nat) (hx : x < 256) (hk : k < 8) : bits .or .u8 (x : Int) (2 ^ k) = ((x ||| 2 ^ k : Nat) : Int) := or_tab ⟨x, hx⟩ ⟨k, hk⟩
theorem setN_lt (x : UInt8) (k : Nat) (hk : k < 8) (on : Bool) : setN x.toNat k on < 256 := by
  have := setN_tab ⟨x.toNat, x.toNat_lt⟩ ⟨k, hk⟩
  unfold setN
  cases on
  · exact this.1
  · exact this.2
theorem mask_tab : ∀ (k j : Fin 8), (255 - 2 ^ k.val).testBit j.val = (decide (j ≠ k)) := by decide +kernel
theorem setN_bit (x k j : Nat) (hk : k < 8) (hj : j < 8) (on : Bool) : (setN x k on).testBit j = if j = k then on else x.testBit j := by
  have hm := mask_tab ⟨k, hk⟩ ⟨j, hj⟩
  simp only [Fin.mk.injEq, ne_eq] at hm
  unfold setN clrN
  by_cases e : j = k
  · subst e
    rw [if_pos rfl]
    cases on <;> simp [Nat.testBit_and, Nat.testBit_or, hm, Nat.testBit_two_pow_self]
  · rw [if_neg e]
    have h2 : (2 ^ k).testBit j = false := Nat.testBit_two_pow_of_ne (Ne.symm e)
    cases on <;> simp [Nat.testBit_and, Nat.testBit_or, hm, h2, e]
/-- One byte turned. -/
def setB (d : ByteArray) (i : Nat) (on : Bool) : ByteArray := ⟨d.data.setIfInBounds (i / 8) (UInt8.ofNat (setN (d.data.getD (i / 8) 0).toNat (i % 8) on))⟩
theorem setB_size (d : ByteArray) (i : Nat) (on : Bool) : (setB d i on).size = d.size := by
  unfold setB ByteArray.size; simp
theorem setB_bit (d : ByteArray) (i j : Nat) (on : Bool) (hi : i / 8 < d.size) : bitOf (setB d i on) j = if j = i then on else bitOf d j := by
  have hd : i / 8 < d.data.size := hi
  unfold bitOf setB
  by_cases e : j / 8 = i / 8
  · rw [e, Array.getD_eq_getD_getElem?, Array.getElem?_setIfInBounds_self_of_lt hd]
    simp only [Option.getD_some]
    have hl := setN_lt (d.data.getD (i / 8) 0) (i % 8) (Nat.mod_lt _ (by omega)) on
    rw [UInt8.toNat_ofNat_of_lt' (by simpa using hl), setN_bit _ _ _ (Nat.mod_lt _ (by omega)) (Nat.mod_lt _ (by omega))]
    by_cases e2 : j = i
    · rw [if_pos e2, if_pos (by rw [e2])]
    · rw [if_neg e2, if_neg (by omega)]
  · rw [if_neg (by intro h; rw [h] at e; exact e rfl), Array.getD_eq_getD_getElem?, Array.getElem?_setIfInBounds_ne (Ne.symm e), ← Array.getD_eq_getD_getElem?]
/-- The map: does page id belong to somebody? -/
def ownB (m : Pg) (id : Nat) : Bool := bitOf (m.c (id / 272)).d (id % 272)
def putC (p : Pg) (q : Nat) (c : Ce) : Pg := ⟨p.k, p.l, p.s, p.n, fun i => if i = q then c else p.c i⟩
def mrk (m : Pg) (id : Nat) (on : Bool) : Pg := putC m (id / 272) ⟨(m.c (id / 272)).st, setB (m.c (id / 272)).d (id % 272) on⟩
/-- A map whose cells have 34 bytes each. -/
def Ch (m : Pg) : Prop := m.k = 2 ∧ ∀ i, i < 6 → (m.c i).d.size = 34
theorem mrk_ch {m : Pg} (h : Ch m) (id : Nat) (on : Bool) : Ch (mrk m id on) := by
  refine ⟨h.1, fun i hi => ?_⟩
  unfold mrk putC
  dsimp only
  by_cases e : i = id / 272
  · rw [if_pos e]
    show (setB _ _ _).size = 34
    rw [setB_size, ← e]
    exact h.2 i hi
  · rw [if_neg e]; exact h.2 i hi
theorem mrk_own {m : Pg} (h : Ch m) (id j : Nat) (on : Bool) (hi : id < 1632) : ownB (mrk m id on) j = if j = id then on else ownB m j := by
  have hs := h.2 (id / 272) (by omega)
  unfold ownB mrk putC
  dsimp only
  by_cases e : j / 272 = id / 272
  · rw [if_pos e]
    dsimp only
    rw [setB_bit _ _ _ _ (by rw [hs]; omega), e]
    by_cases e2 : j = id
    · rw [if_pos e2, if_pos (by rw [e2])]
    · rw [if_neg e2, if_neg (by omega)]
  · rw [if_neg e, if_neg (by intro h; rw [h] at e; exact e rfl)]
end Go.Proofs.Ytdhfcjplnbnkdaa
