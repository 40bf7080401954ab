/- Regions that draw their order and whose calls make memory only: one walk in the order of the text, in the class of worlds that keep every block. No program in sight. -/
import Derived.Test.YtelbioooggnbiaaGreatBk
import Derived.Deep.QuietTactic
import Derived.BigQuiet
set_option linter.unusedVariables false
set_option linter.unusedSimpArgs false
namespace Go.Proofs.YtelbioooggnbiaaGreat
open Go.RowKit

/-- The worlds in which all that stood in v stands as it stood. -/
def Kp (v : World) : Type := { w : World // Below v.heap.size v w }
instance (v : World) : Nonempty (Kp v) := ⟨⟨v, Below.refl _ _⟩⟩
theorem Kp.below {v : World} (x : Kp v) : Below v.heap.size v x.1 := x.2
theorem Kp.cell {v : World} (x : Kp v) {g k : Nat} {u : Value} (h : v.cell? ⟨g, k, none⟩ = some u) : x.1.cell? ⟨g, k, none⟩ = some u := by
  have hlt : g < v.heap.size := World.block_lt_of_cell? v _ h
  rw [x.2.cell (p := ⟨g, k, none⟩) hlt]; exact h
theorem Kp.bk {v : World} (x : Kp v) {g : Nat} {t : TypeId} {cs : Array Value} (h : Bk v g t cs) : Bk x.1 g t cs := h.kept x.2
section
variable {P : Program}
theorem wp_region_kept {id : Nat} {Q : Exit → Act → World → Prop} {a : Act} {w : World} {l : List Oper} (hm : P.follows .mixedOrders = true) (hB : Region.lexB .any l.toArray = true)
    (h : wpQuiet P l.toArray (fun w' => ∃ x : Kp w, w' = x.1) (fun a' => ∀ w', (∃ x : Kp w, w' = x.1) → Q .normal a' w') l a) : (Code.region id l.toArray true).wp P Q a w :=
  wp_region_quiet (C := fun w' => ∃ x : Kp w, w' = x.1) hm hB ⟨⟨{ w with drawn := w.drawn + 1 }, ⟨rfl, rfl, rfl, Nat.le_refl _, fun _ _ => rfl⟩⟩, rfl⟩ (by simpa using h)
theorem kp_call {v : World} {x : Kp v} {f : FuncId} {args : Array Value} {u : Value} (h : Calls P f args x.1 fun e w' => e = .returned u ∧ Below x.1.heap.size x.1 w') :
    Calls P f args x.1 fun e w'' => e = .returned u ∧ ∃ y : Kp v, w'' = y.1 :=
  h.mono fun e w' ⟨he, hb⟩ => ⟨he, ⟨w', x.2.trans (hb.mono x.2.size)⟩, rfl⟩
theorem kp_same {v : World} {x : Kp v} {f : FuncId} {args : Array Value} {u : Value} (h : Calls P f args x.1 fun e w' => e = .returned u ∧ x.1 = w') :
    Calls P f args x.1 fun e w'' => e = .returned u ∧ ∃ y : Kp v, w'' = y.1 :=
  h.mono fun e w' ⟨he, hb⟩ => ⟨he, x, hb.symm⟩
/-- A load whose value is known in every such world. -/
theorem kp_load {v : World} {o : Oper} {a : Act} {K : Act → Prop} (ty : TypeId) (y : Operand) (ho : o.op = .load ty y) (u : Value)
    (hr : ∀ x : Kp v, (execOp a.eval o).run P x.1 = .ok (.value u) x.1) (h : K (a.put o.dst u)) : o.quiet P a (fun w' => ∃ x : Kp v, w' = x.1) K :=
  ⟨u, fun w ⟨x, hx⟩ => by subst hx; unfold Oper.quietAt; rw [hr x]; exact ⟨rfl, rfl⟩, h⟩
end
end Go.Proofs.YtelbioooggnbiaaGreat
