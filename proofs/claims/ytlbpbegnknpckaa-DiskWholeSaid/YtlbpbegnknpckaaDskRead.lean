/- What came in: slices of bools, of texts. -/
import Derived.Test.YtlbpbegnknpckaaDskLaws
set_option linter.unusedVariables false
set_option linter.unusedSimpArgs false
namespace Go.Proofs.Ytlbpbegnknpckaa
open Go.RowKit Go.ChangeShapes Go.WideShapes Go.ChangeAt Go.Deep

/-- A slice that came in, of one-cell elements. -/
def Sq (w : World) (B : Nat) (v : Value) (m : Nat) (f : Nat → Value) : Prop :=
  ∃ a c, v = .slice a m c ∧ (0 < m → ∃ b off, a = some (⟨b, off, none⟩ : Addr) ∧ b < B ∧ ∀ i, i < m → w.cell? ⟨b, off + i, none⟩ = some (f i))
theorem Sq.kept {w w' : World} {B B' : Nat} {v : Value} {m : Nat} {f : Nat → Value} (h : Sq w B v m f) (hb : Below B' w w') (hB : B ≤ B') : Sq w' B v m f := by
  obtain ⟨a, c, e, h⟩ := h
  refine ⟨a, c, e, fun hm => ?_⟩
  obtain ⟨b, off, e1, hlt, hc⟩ := h hm
  exact ⟨b, off, e1, hlt, fun i hi => by rw [hb.cell (p := ⟨b, off + i, none⟩) (by show b < B'; omega)]; exact hc i hi⟩
theorem Sq.of {w : World} {v : Value} {q : Slq} {f : Nat → Value} (h : IsSl w v 1 q) (hf : ∀ i, i < q.len → q.f i 0 = f i) : Sq w w.heap.size v q.len f :=
  ⟨q.a, q.cap, h.val, fun hm => by
    obtain ⟨b, off, e, hlt, hc⟩ := h.at_ hm
    refine ⟨b, off, e, hlt, fun i hi => ?_⟩
    have := hc i 0 hi (by omega)
    rw [Nat.mul_one, Nat.add_zero, hf i hi] at this
    exact this⟩
theorem Kp.of {w : World} {B : Nat} {v : Value} {m : Nat} {kb : Nat → Bool} (h : Sq w B v m (fun i => .bool (kb i))) : Kp w B v m kb := h

/-- A slice of bools. -/
def IsBs (w : World) (v : Value) (q : Slq) : Prop := IsSl w v 1 q ∧ ∃ kb : Nat → Bool, ∀ i, i < q.len → q.f i 0 = .bool (kb i)
theorem read_bools {H : Type} {enc : TypeId × Value → H} {w : World} {base : Nat} {held : Bool} {r : Reach} {b0 : Nat} {d : DataW H} {p : List MemPlace} {v : Value}
    (hv : Value.okWide Try.prog w r b0 31 v) (h : DataW.Trod enc Try.prog w base (fun _ => true) held 31 v d p) : ∃ q, IsBs w v q ∧ SzOf d q.cap := by
  obtain ⟨q, hq, hz, hf⟩ := read_cells Try.underlying31 (by kernel_rfl) hv h
  have hk : ∀ i, ∃ s : Bool, i < q.len → q.f i 0 = .bool s := by
    intro i
    by_cases hi : i < q.len
    · obtain ⟨n, y, h0⟩ := hf i hi
      obtain ⟨s, hs, _⟩ := DataW.trod_bool Try.underlying4 h0
      exact ⟨s, fun _ => by simpa using hs⟩
    · exact ⟨false, fun h => absurd h hi⟩
  exact ⟨q, ⟨hq, fun i => (hk i).choose, fun i => (hk i).choose_spec⟩, hz⟩
/-- A slice of texts. -/
def IsTx (w : World) (v : Value) (q : Slq) : Prop := IsSl w v 1 q ∧ ∃ s : Nat → ByteArray, ∀ i, i < q.len → q.f i 0 = .string (s i) ∧ (s i).size ≤ maxLen
theorem read_texts {H : Type} {enc : TypeId × Value → H} {w : World} {base : Nat} {held : Bool} {r : Reach} {b0 : Nat} {d : DataW H} {p : List MemPlace} {v : Value}
    (hv : Value.okWide Try.prog w r b0 39 v) (h : DataW.Trod enc Try.prog w base (fun _ => true) held 39 v d p) : ∃ q, IsTx w v q ∧ SzOf d q.cap := by
  obtain ⟨q, hq, hz, hf⟩ := read_cells Try.underlying39 (by kernel_rfl) hv h
  have hk : ∀ i, ∃ s : ByteArray, i < q.len → q.f i 0 = .string s ∧ s.size ≤ maxLen := by
    intro i
    by_cases hi : i < q.len
    · obtain ⟨n, y, h0⟩ := hf i hi
      obtain ⟨s, hs, _, hw⟩ := DataW.trod_string Try.underlying9 h0
      exact ⟨s, fun _ => ⟨by simpa using hs, hw⟩⟩
    · exact ⟨⟨#[]⟩, fun h => absurd h hi⟩
  exact ⟨q, ⟨hq, fun i => (hk i).choose, fun i => (hk i).choose_spec⟩, hz⟩

theorem walk_DiskNone' (sector : Int) (v : Value) (q : Slq) (w : World) (h0 : -9223372036854775808 ≤ sector) (h1 : sector ≤ 9223372036854775807) (hq : IsBs w v q) :
    Calls Try.prog 5 #[.int .i64 sector, v] w fun e w' => e = .returned (.bool true) ∧ Below w.heap.size w w' := by
  obtain ⟨h, kb, hk⟩ := hq
  exact walk_DiskNone sector v q w h0 h1 ⟨h, fun i hi => ⟨kb i, hk i hi⟩⟩
end Go.Proofs.Ytlbpbegnknpckaa
