/- The walks of octet.Reader's methods. -/
import Derived.Test.YtgafajbdmegfgaaGreatOctVal
import Derived.Test.YtgafajbdmegfgaaGreatOctPlain2
import Derived.Test.YtgafajbdmegfgaaGreatBk
import Derived.Lib.Hide
set_option linter.unusedVariables false
set_option linter.unusedSimpArgs false
namespace Go.Proofs.YtgafajbdmegfgaaGreat
open Go.RowKit

/-- Block g is a reader with these fields. -/
def RdAt (w : World) (g : Nat) (rest : ByteArray) (bad : Bool) : Prop := w.heap[g]? = some (.cells #[.string rest, .bool bad] 141 (0, 0))
theorem RdAt.lt {w : World} {g : Nat} {rest : ByteArray} {bad : Bool} (h : RdAt w g rest bad) : g < w.heap.size := by
  rcases Nat.lt_or_ge g w.heap.size with hlt | hge
  · exact hlt
  · unfold RdAt at h; rw [Array.getElem?_eq_none hge] at h; cases h
theorem RdAt.c0 {w : World} {g : Nat} {rest : ByteArray} {bad : Bool} (h : RdAt w g rest bad) : w.cell? ⟨g, 0, none⟩ = some (.string rest) := by rw [cell_of_row w g 0 _ _ _ h]; rfl
theorem RdAt.c1 {w : World} {g : Nat} {rest : ByteArray} {bad : Bool} (h : RdAt w g rest bad) : w.cell? ⟨g, 1, none⟩ = some (.bool bad) := by rw [cell_of_row w g 1 _ _ _ h]; rfl
theorem RdAt.fz {w : World} {g : Nat} {rest : ByteArray} {bad : Bool} (h : RdAt w g rest bad) (i : Nat) : w.frozen? ⟨g, i, none⟩ = false := by
  unfold RdAt at h; simp [World.frozen?, h]
theorem RdAt.set0 {w : World} {g : Nat} {rest : ByteArray} {bad : Bool} (h : RdAt w g rest bad) (s : ByteArray) : RdAt (w.setCell ⟨g, 0, none⟩ (.string s)) g s bad := by
  unfold RdAt at h ⊢; simp [World.setCell, Array.getElem?_modify, h]
theorem RdAt.set1 {w : World} {g : Nat} {rest : ByteArray} {bad : Bool} (h : RdAt w g rest bad) (b : Bool) : RdAt (w.setCell ⟨g, 1, none⟩ (.bool b)) g rest b := by
  unfold RdAt at h ⊢; simp [World.setCell, Array.getElem?_modify, h]
theorem RdAt.drewN {w : World} {g : Nat} {rest : ByteArray} {bad : Bool} (h : RdAt w g rest bad) (n : Nat) : RdAt (w.drewN n) g rest bad := h
theorem RdAt.below {w w' : World} {B g : Nat} {rest : ByteArray} {bad : Bool} (h : RdAt w g rest bad) (hb : Below B w w') (hg : g < B) : RdAt w' g rest bad := (hb.block g hg).trans h
theorem RdAt.grown {w w' : World} {g : Nat} {row : Option Nat} {rest : ByteArray} {bad : Bool} (h : RdAt w g rest bad) (hb : w.grownBy w' row) (hg : some g ≠ row) : RdAt w' g rest bad := (hb.block g h.lt hg).trans h

set_option maxHeartbeats 400000 in
theorem rd_bad (g : Nat) (b : Bool) (w : World) (h : w.cell? ⟨g, 1, none⟩ = some (.bool b)) :
    Calls Tryz.prog 63 #[.pointer (some ⟨g, 0, none⟩)] w fun e w' => e = .returned (.bool b) ∧ w = w' := by
  go_enter Tryz.func63, Tryz.ntmps63
  go_wp2
  go_ret
  exact ⟨rfl, rfl⟩
set_option maxHeartbeats 400000 in
theorem rd_bad_nil (w : World) :
    Calls Tryz.prog 63 #[.pointer none] w fun e w' => e = .returned (.bool true) ∧ w = w' := by
  go_enter Tryz.func63, Tryz.ntmps63
  go_wp2
  go_ret
  exact ⟨rfl, rfl⟩

set_option maxHeartbeats 400000 in
theorem rd_spoil (g : Nat) (rest : ByteArray) (b : Bool) (w : World) (h : RdAt w g rest b) :
    Calls Tryz.prog 78 #[.pointer (some ⟨g, 0, none⟩)] w fun e w' => e = .returned (.tuple #[]) ∧ RdAt w' g ⟨#[]⟩ true ∧ w.grownBy w' (some g) := by
  have h0 := h.c0; have h1 := h.c1; have f0 := h.fz 0; have f1 := h.fz 1
  have fin : RdAt ((w.setCell ⟨g, 1, none⟩ (.bool true)).setCell ⟨g, 0, none⟩ (.string ⟨#[]⟩)) g ⟨#[]⟩ true ∧ w.grownBy ((w.setCell ⟨g, 1, none⟩ (.bool true)).setCell ⟨g, 0, none⟩ (.string ⟨#[]⟩)) (some g) :=
    ⟨(h.set1 true).set0 _, only_set (only_set (World.grownBy.refl _ _) _ _) _ _⟩
  have FIN := Lib.hid fin; clear fin h
  go_enter Tryz.func78, Tryz.ntmps78
  go_wp2
  go_outline
  go_end0
  exact ⟨rfl, FIN.out⟩

end Go.Proofs.YtgafajbdmegfgaaGreat
