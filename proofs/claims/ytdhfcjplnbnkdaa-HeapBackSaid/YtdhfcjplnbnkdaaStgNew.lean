/- A stage made, its changes dropped. -/
import Derived.Test.YtdhfcjplnbnkdaaStgSt
set_option linter.unusedVariables false
set_option linter.unusedSimpArgs false
namespace Go.Proofs.Ytdhfcjplnbnkdaa
open Go.RowKit Go.Maps

def NewPost (w : World) (sv : Value) (e : Ending) (w' : World) : Prop := ∃ g b, e = .returned (.pointer (some ⟨g, 0, none⟩)) ∧ Sg w' w.heap.size g b 0 sv (fun _ => none) ∧ Below w.heap.size w w'
set_option maxRecDepth 100000 in
theorem stnew_any (T : TypeId) (v : Value) (w : World) : Calls Try.prog 10 #[.iface T v] w (NewPost w (.iface T v)) := by
  have M := Lib.hid (Mp.made w Try.prog 3)
  have B0 := Lib.hid ((Below.refl w.heap.size w).alloc (Nat.le_refl _) (.map #[] 0))
  have hmk := fun w => run_makeMap (P := Try.prog) 76 w
  go_enter Try.func10, Try.ntmps10
  go_wp2
  go_ret
  unfold NewPost
  refine ⟨w.heap.size + 1, w.heap.size, rfl, ⟨Bk.new2 w _ _ _, ?_, by omega, Nat.le_refl _⟩, B0.out.alloc B0.out.size _⟩
  rw [keyed_none]
  exact M.out.alloc _
set_option maxRecDepth 100000 in
theorem stdrop_any {w : World} {B g b m : Nat} {sv : Value} {f : Int → Option Pg} (h : Sg w B g b m sv f) :
    Calls Try.prog 32 #[.pointer (some ⟨g, 0, none⟩)] w fun e w' => e = .returned (.tuple #[]) ∧ Sg w' B g b 0 sv (fun _ => none) ∧ w.grownBy w' (some b) := by
  have H := Lib.hid h
  have c1 : w.cell? ⟨g, 1, none⟩ = some (.map (some b)) := h.box.cell 1
  clear h
  go_enter Try.func32, Try.ntmps32
  go_wp2_with (refine wpList_mp_clear _ rfl _ 76 rfl 3 40 Try.underlying76 b m (keyed f) rfl H.out.mp ?_; intro w2 hm2 hg2)
  have H2 := Lib.hid (show Sg w2 B g b 0 sv (fun _ => none) from ⟨H.out.box.grown hg2 (fun e => by injection e with e; exact (Mp.ne_bk H.out.mp H.out.box) e.symm), by rw [keyed_none]; exact hm2, H.out.bg, H.out.bb⟩)
  have G2 := Lib.hid hg2
  clear hm2 hg2
  first | go_wp2 | skip
  exact bodyPost_end (results_none rfl _ _ _) rfl ⟨rfl, H2.out, G2.out⟩
end Go.Proofs.Ytdhfcjplnbnkdaa
