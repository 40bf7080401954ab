/- Slices of numbers that came in. -/
import Derived.Test.YtelbioooggnbiaaGreatProg
import Derived.Test.YtelbioooggnbiaaGreatRead
set_option linter.unusedVariables false
set_option linter.unusedSimpArgs false
namespace Go.Proofs.YtelbioooggnbiaaGreat
open Go.RowKit Go.ChangeShapes Go.WideShapes Go.ChangeAt Go.Deep

/-- Numbers, one a cell. -/
def Row (w : World) (B : Nat) (k : IntKind) (v : Value) (m : Nat) (f : Nat → Int) : Prop :=
  ∃ a c, v = .slice a m c ∧ (a = none → m = 0 ∧ c = 0) ∧ (0 < m → ∃ b off, a = some (⟨b, off, none⟩ : Addr) ∧ b < B ∧ ∀ i, i < m → w.cell? ⟨b, off + i, none⟩ = some (.int k (f i)))
theorem Row.below {w w' : World} {B B' : Nat} {k : IntKind} {v : Value} {m : Nat} {f : Nat → Int} (h : Row w B k v m f) (hb : Below B' w w') (hB : B ≤ B') : Row w' B k v m f := by
  obtain ⟨a, c, e, h0, h⟩ := h
  refine ⟨a, c, e, h0, fun hm => ?_⟩
  obtain ⟨b, off, e1, hlt, hc⟩ := h hm
  exact ⟨b, off, e1, hlt, fun i hi => by rw [hb.cell (p := ⟨b, off + i, none⟩) (by show b < B'; omega)]; exact hc i hi⟩
theorem Row.mono {w : World} {B B' : Nat} {k : IntKind} {v : Value} {m : Nat} {f : Nat → Int} (h : Row w B k v m f) (hB : B ≤ B') : Row w B' k v m f := by
  obtain ⟨a, c, e, h0, h⟩ := h
  refine ⟨a, c, e, h0, fun hm => ?_⟩
  obtain ⟨b, off, e1, hlt, hc⟩ := h hm
  exact ⟨b, off, e1, by omega, hc⟩
theorem Row.congr {w : World} {B : Nat} {k : IntKind} {v : Value} {m : Nat} {f g : Nat → Int} (h : Row w B k v m f) (hg : ∀ i, i < m → f i = g i) : Row w B k v m g := by
  obtain ⟨a, c, e, h0, h⟩ := h
  refine ⟨a, c, e, h0, fun hm => ?_⟩
  obtain ⟨b, off, e1, hlt, hc⟩ := h hm
  exact ⟨b, off, e1, hlt, fun i hi => by rw [← hg i hi]; exact hc i hi⟩

theorem nil_zero {H : Type} {enc : TypeId × Value → H} {w : World} {base : Nat} {held : Bool} {d : DataW H} {p : List MemPlace} {t e : TypeId} {n c : Nat} (ht : Tryz.prog.underlying t = some (.slice e))
    (h : DataW.Trod enc Tryz.prog w base (fun _ => true) held t (.slice none n c) d p) : n = 0 ∧ c = 0 := by
  obtain ⟨fuel, h⟩ := h
  rcases open_slice ht h with ⟨hcs, _⟩ | ⟨x, len', cap', m, n', D, Pl, hcs, _⟩
  · simp [Value.cells] at hcs
    exact hcs
  · simp [Value.cells] at hcs
section
variable {H : Type} {enc : TypeId × Value → H} {w : World} {base : Nat} {held : Bool} {r : Reach} {b0 : Nat} {d : DataW H} {p : List MemPlace} {v : Value}
set_option maxRecDepth 100000 in
theorem read_ints (hv : Value.okWide Tryz.prog w r b0 45 v) (h : DataW.Trod enc Tryz.prog w base (fun _ => true) held 45 v d p) :
    ∃ q : Slq, (v = .slice q.a q.len q.cap ∧ q.len ≤ q.cap ∧ q.cap ≤ maxLen ∧ ∃ f : Nat → Int, Row w w.heap.size .i64 v q.len f ∧ ∀ i, i < q.len → -9223372036854775808 ≤ f i ∧ f i ≤ 9223372036854775807) ∧ SzOf d q.cap := by
  obtain ⟨q, hq, hz, hf⟩ := read_cells Tryz.underlying45 (by kernel_rfl) hv h
  have hnil : q.a = none → q.len = 0 ∧ q.cap = 0 := by
    intro e
    have h1 := hq.val
    rw [e] at h1
    subst h1
    exact nil_zero Tryz.underlying45 h
  have hk : ∀ i, ∃ s : Int, i < q.len → q.f i 0 = .int .i64 s ∧ -9223372036854775808 ≤ s ∧ s ≤ 9223372036854775807 := by
    intro i
    by_cases hi : i < q.len
    · obtain ⟨n, y, h0⟩ := hf i hi
      obtain ⟨s, hs, _, hw⟩ := DataW.trod_int Tryz.underlying3 h0
      have hb : -9223372036854775808 ≤ s ∧ s ≤ 9223372036854775807 := by simpa [Lit.wf, IntKind.min, IntKind.max, IntKind.signed, IntKind.bits] using hw
      exact ⟨s, fun _ => ⟨by simpa using hs, hb⟩⟩
    · exact ⟨0, fun h => absurd h hi⟩
  refine ⟨q, ⟨hq.val, hq.le, hq.max, fun i => (hk i).choose, ⟨q.a, q.cap, hq.val, hnil, fun hm => ?_⟩, fun i hi => ((hk i).choose_spec hi).2⟩, hz⟩
  obtain ⟨b, off, e, hlt, hc⟩ := hq.at_ hm
  refine ⟨b, off, e, hlt, fun i hi => ?_⟩
  have := hc i 0 hi (by omega)
  rw [Nat.mul_one, Nat.add_zero, ((hk i).choose_spec hi).1] at this
  exact this
end
end Go.Proofs.YtelbioooggnbiaaGreat
