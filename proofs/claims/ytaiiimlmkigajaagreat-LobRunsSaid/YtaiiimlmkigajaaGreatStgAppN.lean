/- The shelf's Apply. The shelf's Apply of no images at all. -/
import Derived.Test.YtaiiimlmkigajaaGreatStgNew
import Derived.Test.YtaiiimlmkigajaaGreatStgPure
import Derived.Test.YtaiiimlmkigajaaGreatPgWalk
set_option linter.unusedVariables false
set_option linter.unusedSimpArgs false
namespace Go.Proofs.YtaiiimlmkigajaaGreat
open Go.RowKit

section
variable {ops : Array Oper} {rest : List Oper} {o : Oper} {a : Act} {w : World}
end
/-- An image that a shelf of n pages takes. -/
def Im.fits (n : Nat) (i : Im) : Prop := hasId n i.id ∧ i.p.ok
def putAll (ps : List Pg) (l : List Im) : List Pg := l.foldl (fun q i => q.set i.id.toNat i.p) ps
theorem putAll_len : ∀ (l : List Im) (ps : List Pg), (putAll ps l).length = ps.length
  | [], ps => rfl
  | i :: l, ps => by
    show (putAll (ps.set i.id.toNat i.p) l).length = _
    rw [putAll_len l, List.length_set]
def ApPost (w : World) (B g r : Nat) (ps : List Pg) (l : List Im) (e : Ending) (w' : World) : Prop :=
  (e = .returned (.int .i64 1) ∧ ¬ (∀ i ∈ l, i.fits ps.length) ∧ Below w.heap.size w w') ∨
  (e = .returned (.int .i64 0) ∧ (∀ i ∈ l, i.fits ps.length) ∧ Sh w' B g r (putAll ps l) ∧ w.grownBy w' (some r))
theorem IRow.of_block {w w' : World} {g : Nat} {l : List Im} (h : IRow w g l) (hs : w.heap.size ≤ w'.heap.size) (hb : w'.heap[g]? = w.heap[g]?) : IRow w' g l :=
  ⟨Nat.lt_of_lt_of_le h.lt hs, fun i p hi j v hv => (World.cell?_of_block (w := w) hb).trans (h.cells i p hi j v hv)⟩
end Go.Proofs.YtaiiimlmkigajaaGreat
namespace Go.Proofs.YtaiiimlmkigajaaGreat
open Go.RowKit
end Go.Proofs.YtaiiimlmkigajaaGreat
