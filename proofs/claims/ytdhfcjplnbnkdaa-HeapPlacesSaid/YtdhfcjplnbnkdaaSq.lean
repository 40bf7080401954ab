/- What came in: slices of texts. -/
import Derived.Test.YtdhfcjplnbnkdaaBk
import Derived.Test.YtdhfcjplnbnkdaaRead
import Derived.Test.YtdhfcjplnbnkdaaProg
set_option linter.unusedVariables false
set_option linter.unusedSimpArgs false
namespace Go.Proofs.Ytdhfcjplnbnkdaa
open Go.RowKit Go.ChangeShapes Go.WideShapes Go.ChangeAt Go.Deep

/-- A slice that came in, of one-cell elements. -/
def Sq (w : World) (B : Nat) (v : Value) (m : Nat) (f : Nat → Value) : Prop :=
  ∃ a c, v = .slice a m c ∧ (0 < m → ∃ b off, a = some (⟨b, off, none⟩ : Addr) ∧ b < B ∧ ∀ i, i < m → w.cell? ⟨b, off + i, none⟩ = some (f i))
theorem Sq.kept {w w' : World} {B B' : Nat} {v : Value} {m : Nat} {f : Nat → Value} (h : Sq w B v m f) (hb : Below B' w w') (hB : B ≤ B') : Sq w' B v m f := by
  obtain ⟨a, c, e, h⟩ := h
  refine ⟨a, c, e, fun hm => ?_⟩
  obtain ⟨b, off, e1, hlt, hc⟩ := h hm
  exact ⟨b, off, e1, hlt, fun i hi => by rw [hb.cell (p := ⟨b, off + i, none⟩) (by show b < B'; omega)]; exact hc i hi⟩
theorem Sq.of {w : World} {v : Value} {q : Slq} {f : Nat → Value} (h : IsSl w v 1 q) (hf : ∀ i, i < q.len → q.f i 0 = f i) : Sq w w.heap.size v q.len f :=
  ⟨q.a, q.cap, h.val, fun hm => by
    obtain ⟨b, off, e, hlt, hc⟩ := h.at_ hm
    refine ⟨b, off, e, hlt, fun i hi => ?_⟩
    have := hc i 0 hi (by omega)
    rw [Nat.mul_one, Nat.add_zero, hf i hi] at this
    exact this⟩
/-- A slice of texts. -/
def IsTx (w : World) (v : Value) (q : Slq) : Prop := IsSl w v 1 q ∧ ∃ s : Nat → ByteArray, ∀ i, i < q.len → q.f i 0 = .string (s i) ∧ (s i).size ≤ maxLen
set_option maxRecDepth 100000 in
theorem read_texts {H : Type} {enc : TypeId × Value → H} {w : World} {base : Nat} {held : Bool} {r : Reach} {b0 : Nat} {d : DataW H} {p : List MemPlace} {v : Value}
    (hv : Value.okWide Try.prog w r b0 65 v) (h : DataW.Trod enc Try.prog w base (fun _ => true) held 65 v d p) : ∃ q, IsTx w v q ∧ SzOf d q.cap := by
  obtain ⟨q, hq, hz, hf⟩ := read_cells Try.underlying65 (by kernel_rfl) hv h
  have hk : ∀ i, ∃ s : ByteArray, i < q.len → q.f i 0 = .string s ∧ s.size ≤ maxLen := by
    intro i
    by_cases hi : i < q.len
    · obtain ⟨n, y, h0⟩ := hf i hi
      obtain ⟨s, hs, _, hw⟩ := DataW.trod_string Try.underlying9 h0
      exact ⟨s, fun _ => ⟨by simpa using hs, hw⟩⟩
    · exact ⟨⟨#[]⟩, fun h => absurd h hi⟩
  exact ⟨q, ⟨hq, fun i => (hk i).choose, fun i => (hk i).choose_spec⟩, hz⟩
end Go.Proofs.Ytdhfcjplnbnkdaa
