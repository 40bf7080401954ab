/- What came in for waits: slices of arcs, of numbers. -/
import Derived.Test.YtehifnkpmhbimaaProg
import Derived.Test.YtehifnkpmhbimaaRead
import Derived.Test.YtehifnkpmhbimaaWtPlain
set_option linter.unusedVariables false
set_option linter.unusedSimpArgs false
namespace Go.Proofs.Ytehifnkpmhbimaa
open Go.RowKit Go.ChangeShapes Go.WideShapes Go.ChangeAt Go.Deep

/-- Numbers, one a cell. -/
def Row (w : World) (B : Nat) (k : IntKind) (v : Value) (m : Nat) (f : Nat → Int) : Prop :=
  ∃ a c, v = .slice a m c ∧ (a = none → m = 0 ∧ c = 0) ∧ (0 < m → ∃ b off, a = some (⟨b, off, none⟩ : Addr) ∧ b < B ∧ ∀ i, i < m → w.cell? ⟨b, off + i, none⟩ = some (.int k (f i)))
theorem Row.below {w w' : World} {B B' : Nat} {k : IntKind} {v : Value} {m : Nat} {f : Nat → Int} (h : Row w B k v m f) (hb : Below B' w w') (hB : B ≤ B') : Row w' B k v m f := by
  obtain ⟨a, c, e, h0, h⟩ := h
  refine ⟨a, c, e, h0, fun hm => ?_⟩
  obtain ⟨b, off, e1, hlt, hc⟩ := h hm
  exact ⟨b, off, e1, hlt, fun i hi => by rw [hb.cell (p := ⟨b, off + i, none⟩) (by show b < B'; omega)]; exact hc i hi⟩
theorem Row.mono {w : World} {B B' : Nat} {k : IntKind} {v : Value} {m : Nat} {f : Nat → Int} (h : Row w B k v m f) (hB : B ≤ B') : Row w B' k v m f := by
  obtain ⟨a, c, e, h0, h⟩ := h
  refine ⟨a, c, e, h0, fun hm => ?_⟩
  obtain ⟨b, off, e1, hlt, hc⟩ := h hm
  exact ⟨b, off, e1, by omega, hc⟩
theorem Row.congr {w : World} {B : Nat} {k : IntKind} {v : Value} {m : Nat} {f g : Nat → Int} (h : Row w B k v m f) (hg : ∀ i, i < m → f i = g i) : Row w B k v m g := by
  obtain ⟨a, c, e, h0, h⟩ := h
  refine ⟨a, c, e, h0, fun hm => ?_⟩
  obtain ⟨b, off, e1, hlt, hc⟩ := h hm
  exact ⟨b, off, e1, hlt, fun i hi => by rw [← hg i hi]; exact hc i hi⟩

/-- Arcs as they lie: two cells each. -/
def ArcI (w : World) (B : Nat) (v : Value) (m : Nat) (s t : Nat → Int) : Prop :=
  ∃ a c, v = .slice a m c ∧ m ≤ maxLen ∧ (0 < m → ∃ b off, a = some (⟨b, off, none⟩ : Addr) ∧ b < B ∧ ∀ i, i < m → w.cell? ⟨b, off + i * 2, none⟩ = some (.int .i64 (s i)) ∧ w.cell? ⟨b, off + (i * 2 + 1), none⟩ = some (.int .i64 (t i)))
theorem ArcI.below {w w' : World} {B B' : Nat} {v : Value} {m : Nat} {s t : Nat → Int} (h : ArcI w B v m s t) (hb : Below B' w w') (hB : B ≤ B') : ArcI w' B v m s t := by
  obtain ⟨a, c, e, hm', h⟩ := h
  refine ⟨a, c, e, hm', fun hm => ?_⟩
  obtain ⟨b, off, e1, hlt, hc⟩ := h hm
  exact ⟨b, off, e1, hlt, fun i hi => by rw [hb.cell (p := ⟨b, off + i * 2, none⟩) (by show b < B'; omega), hb.cell (p := ⟨b, off + (i * 2 + 1), none⟩) (by show b < B'; omega)]; exact hc i hi⟩
theorem ArcI.mono {w : World} {B B' : Nat} {v : Value} {m : Nat} {s t : Nat → Int} (h : ArcI w B v m s t) (hB : B ≤ B') : ArcI w B' v m s t := by
  obtain ⟨a, c, e, hm', h⟩ := h
  refine ⟨a, c, e, hm', fun hm => ?_⟩
  obtain ⟨b, off, e1, hlt, hc⟩ := h hm
  exact ⟨b, off, e1, by omega, hc⟩
/-- Arcs whose ends are numbers. -/
def IsArcs (w : World) (B : Nat) (v : Value) (A : Arcs) : Prop := ArcI w B v A.m (fun i => A.s i) (fun i => A.t i)

/-- May these be? -/
def Fine (n : Int) (m : Nat) (s t : Nat → Int) : Prop := 0 ≤ n ∧ n ≤ 64 ∧ ∀ i, i < m → 0 ≤ s i ∧ s i < n ∧ 0 ≤ t i ∧ t i < n
def arcsOf (m : Nat) (s t : Nat → Int) : Arcs := ⟨m, fun i => (s i).toNat, fun i => (t i).toNat⟩
theorem Fine.arcs {n : Int} {m : Nat} {s t : Nat → Int} (h : Fine n m s t) {w : World} {B : Nat} {v : Value} (ha : ArcI w B v m s t) : IsArcs w B v (arcsOf m s t) := by
  obtain ⟨a, c, e, hm', ha⟩ := ha
  refine ⟨a, c, e, hm', fun hm => ?_⟩
  obtain ⟨b, off, e1, hlt, hc⟩ := ha hm
  refine ⟨b, off, e1, hlt, fun i hi => ?_⟩
  have hf := h.2.2 i hi
  simp only [arcsOf]
  rw [Int.toNat_of_nonneg hf.1, Int.toNat_of_nonneg hf.2.2.1]
  exact hc i hi
theorem Fine.inn {n : Int} {m : Nat} {s t : Nat → Int} (h : Fine n m s t) : (arcsOf m s t).In n.toNat := fun i hi => by
  have hf := h.2.2 i hi
  simp only [arcsOf]
  omega

theorem nil_zero {H : Type} {enc : TypeId × Value → H} {w : World} {base : Nat} {held : Bool} {d : DataW H} {p : List MemPlace} {t e : TypeId} {n c : Nat} (ht : Try.prog.underlying t = some (.slice e))
    (h : DataW.Trod enc Try.prog w base (fun _ => true) held t (.slice none n c) d p) : n = 0 ∧ c = 0 := by
  obtain ⟨fuel, h⟩ := h
  rcases open_slice ht h with ⟨hcs, _⟩ | ⟨x, len', cap', m, n', D, Pl, hcs, _⟩
  · simp [Value.cells] at hcs
    exact hcs
  · simp [Value.cells] at hcs
section
variable {H : Type} {enc : TypeId × Value → H} {w : World} {base : Nat} {held : Bool} {r : Reach} {b0 : Nat} {d : DataW H} {p : List MemPlace} {v : Value}
theorem read_arcs (hv : Value.okWide Try.prog w r b0 22 v) (h : DataW.Trod enc Try.prog w base (fun _ => true) held 22 v d p) :
    ∃ q : Slq, (v = .slice q.a q.len q.cap ∧ q.len ≤ q.cap ∧ ∃ s t, ArcI w w.heap.size v q.len s t) ∧ SzOf d q.cap := by
  have ht := Try.underlying22
  have hC : Try.prog.cellsOf 42 = 2 := by kernel_rfl
  have hC1 : Try.prog.cellsOf 3 = 1 := by kernel_rfl
  obtain ⟨a, len, cap, rfl⟩ := okWide_slice ht hv
  obtain ⟨fuel, h⟩ := h
  rcases open_slice ht h with ⟨hcs, _⟩ | ⟨x, len', cap', m, n, D, Pl, hcs, hb, hl, hm, hmm, hx, hi⟩
  · simp [Value.cells] at hcs
    obtain ⟨rfl, rfl, rfl⟩ := hcs
    exact ⟨⟨none, 0, 0, fun _ _ => .nilIface⟩, ⟨rfl, Nat.le_refl _, fun _ => 0, fun _ => 0, none, 0, rfl, by simp, fun h => absurd h (Nat.lt_irrefl 0)⟩, .inl rfl⟩
  · simp [Value.cells] at hcs
    obtain ⟨rfl, rfl, rfl⟩ := hcs
    simp only [if_true] at hmm
    obtain rfl : cap = m := by omega
    have hall : ∀ i, i < len → ∃ s t : Int, w.cell? (x.add (i * 2)) = some (.int .i64 s) ∧ w.cell? (x.add (i * 2 + 1)) = some (.int .i64 t) := by
      intro i hil
      have hh := hi i (by omega)
      rw [hC] at hh
      obtain ⟨cs', hc, ht'⟩ := hh
      obtain ⟨ys, m', _, _, hlen, hyl, hf⟩ := DataW.trod_array Try.underlying42 ht'
      obtain ⟨_, hcl, hat⟩ := World.cells?_some hc
      rw [hC1] at hf
      rcases cs' with _ | ⟨c0, _ | ⟨c1, _ | ⟨c2, cs'⟩⟩⟩
      · simp at hcl
      · simp at hcl
      · have h0 := hf 0 (by omega)
        have h1 := hf 1 (by omega)
        obtain ⟨y0, hy0⟩ : ∃ y, ys[0]? = some y := ⟨_, List.getElem?_eq_getElem (by omega)⟩
        obtain ⟨y1, hy1⟩ : ∃ y, ys[1]? = some y := ⟨_, List.getElem?_eq_getElem (by omega)⟩
        rw [hy0] at h0
        rw [hy1] at h1
        obtain ⟨s, hs, _⟩ := DataW.trod_int Try.underlying3 h0
        obtain ⟨t, ht2, _⟩ := DataW.trod_int Try.underlying3 h1
        simp at hs ht2
        subst hs ht2
        refine ⟨s, t, ?_, ?_⟩
        · have := hat 0 (by omega)
          rw [add_add, Nat.add_zero] at this
          exact this
        · have := hat 1 (by omega)
          rw [add_add] at this
          exact this
      · simp at hcl
    have hs : ∀ i, ∃ s t : Int, i < len → w.cell? (x.add (i * 2)) = some (.int .i64 s) ∧ w.cell? (x.add (i * 2 + 1)) = some (.int .i64 t) := by
      intro i
      by_cases hil : i < len
      · obtain ⟨s, t, h1⟩ := hall i hil; exact ⟨s, t, fun _ => h1⟩
      · exact ⟨0, 0, fun h => absurd h hil⟩
    refine ⟨⟨some x, len, cap, fun _ _ => .nilIface⟩, ⟨rfl, hl, fun i => (hs i).choose, fun i => (hs i).choose_spec.choose, some x, cap, rfl, by simp only [maxLen] at hm ⊢; omega, fun hlen => ?_⟩, .inr ⟨_, _, (Prod.mk.inj hx).1, by simp; omega⟩⟩
    obtain ⟨b, off, e, hlt, hc⟩ := mk_at (size := 2) (len := len) (f := fun i j => if j = 0 then .int .i64 (hs i).choose else .int .i64 (hs i).choose_spec.choose) hlen (by omega) (fun i j hi' hj => by
      obtain ⟨g1, g2⟩ := (hs i).choose_spec.choose_spec hi'
      rcases (show j = 0 ∨ j = 1 by omega) with rfl | rfl
      · simpa using g1
      · simpa using g2)
    refine ⟨b, off, e, hlt, fun i hi' => ⟨?_, ?_⟩⟩
    · have := hc i 0 hi' (by omega); simpa using this
    · have := hc i 1 hi' (by omega); simpa [Nat.add_assoc] using this
theorem read_bits (hv : Value.okWide Try.prog w r b0 24 v) (h : DataW.Trod enc Try.prog w base (fun _ => true) held 24 v d p) :
    ∃ q : Slq, (v = .slice q.a q.len q.cap ∧ q.len ≤ q.cap ∧ q.cap ≤ maxLen ∧ ∃ f : Nat → Int, Row w w.heap.size .u64 v q.len f ∧ ∀ i, i < q.len → 0 ≤ f i ∧ f i < 18446744073709551616) ∧ SzOf d q.cap := by
  obtain ⟨q, hq, hz, hf⟩ := read_cells Try.underlying24 (by kernel_rfl) hv h
  have hnil : q.a = none → q.len = 0 ∧ q.cap = 0 := by
    intro e
    have h1 := hq.val
    rw [e] at h1
    subst h1
    exact nil_zero Try.underlying24 h
  have hk : ∀ i, ∃ s : Int, i < q.len → q.f i 0 = .int .u64 s ∧ 0 ≤ s ∧ s < 18446744073709551616 := by
    intro i
    by_cases hi : i < q.len
    · obtain ⟨n, y, h0⟩ := hf i hi
      obtain ⟨s, hs, _, hw⟩ := DataW.trod_int Try.underlying41 h0
      have hb : 0 ≤ s ∧ s ≤ 18446744073709551615 := by simpa [Lit.wf, IntKind.min, IntKind.max, IntKind.signed, IntKind.bits] using hw
      exact ⟨s, fun _ => ⟨by simpa using hs, by omega, by omega⟩⟩
    · exact ⟨0, fun h => absurd h hi⟩
  refine ⟨q, ⟨hq.val, hq.le, hq.max, fun i => (hk i).choose, ⟨q.a, q.cap, hq.val, hnil, fun hm => ?_⟩, fun i hi => ((hk i).choose_spec hi).2⟩, hz⟩
  obtain ⟨b, off, e, hlt, hc⟩ := hq.at_ hm
  refine ⟨b, off, e, hlt, fun i hi => ?_⟩
  have := hc i 0 hi (by omega)
  rw [Nat.mul_one, Nat.add_zero, ((hk i).choose_spec hi).1] at this
  exact this
theorem read_ints (hv : Value.okWide Try.prog w r b0 30 v) (h : DataW.Trod enc Try.prog w base (fun _ => true) held 30 v d p) :
    ∃ q : Slq, (v = .slice q.a q.len q.cap ∧ q.len ≤ q.cap ∧ q.cap ≤ maxLen ∧ ∃ f : Nat → Int, Row w w.heap.size .i64 v q.len f ∧ ∀ i, i < q.len → -9223372036854775808 ≤ f i ∧ f i ≤ 9223372036854775807) ∧ SzOf d q.cap := by
  obtain ⟨q, hq, hz, hf⟩ := read_cells Try.underlying30 (by kernel_rfl) hv h
  have hnil : q.a = none → q.len = 0 ∧ q.cap = 0 := by
    intro e
    have h1 := hq.val
    rw [e] at h1
    subst h1
    exact nil_zero Try.underlying30 h
  have hk : ∀ i, ∃ s : Int, i < q.len → q.f i 0 = .int .i64 s ∧ -9223372036854775808 ≤ s ∧ s ≤ 9223372036854775807 := by
    intro i
    by_cases hi : i < q.len
    · obtain ⟨n, y, h0⟩ := hf i hi
      obtain ⟨s, hs, _, hw⟩ := DataW.trod_int Try.underlying3 h0
      have hb : -9223372036854775808 ≤ s ∧ s ≤ 9223372036854775807 := by simpa [Lit.wf, IntKind.min, IntKind.max, IntKind.signed, IntKind.bits] using hw
      exact ⟨s, fun _ => ⟨by simpa using hs, hb⟩⟩
    · exact ⟨0, fun h => absurd h hi⟩
  refine ⟨q, ⟨hq.val, hq.le, hq.max, fun i => (hk i).choose, ⟨q.a, q.cap, hq.val, hnil, fun hm => ?_⟩, fun i hi => ((hk i).choose_spec hi).2⟩, hz⟩
  obtain ⟨b, off, e, hlt, hc⟩ := hq.at_ hm
  refine ⟨b, off, e, hlt, fun i hi => ?_⟩
  have := hc i 0 hi (by omega)
  rw [Nat.mul_one, Nat.add_zero, ((hk i).choose_spec hi).1] at this
  exact this
end
end Go.Proofs.Ytehifnkpmhbimaa
