/- What the laws of the locks take. -/
import Derived.Test.YtnpnpkaklamboaaDoorLkLaw
import Derived.Test.YtnpnpkaklamboaaDoorRead
set_option linter.unusedVariables false
set_option linter.unusedSimpArgs false
namespace Go.Proofs.YtnpnpkaklamboaaDoor
open Go.RowKit Go.ChangeShapes Go.WideShapes Go.ChangeAt Go.Deep

theorem tab_of (W : World) (h : W.cell? ⟨0, 0, none⟩ = some (.int .i64 0) ∧ W.cell? ⟨0, 1, none⟩ = some (.int .i64 1) ∧ W.cell? ⟨0, 2, none⟩ = some (.int .i64 3) ∧
    W.cell? ⟨0, 3, none⟩ = some (.int .i64 5) ∧ W.cell? ⟨0, 4, none⟩ = some (.int .i64 7) ∧ W.cell? ⟨0, 5, none⟩ = some (.int .i64 13) ∧ W.cell? ⟨0, 6, none⟩ = some (.int .i64 31)) : Tab W := by
  obtain ⟨h0, h1, h2, h3, h4, h5, h6⟩ := h
  refine ⟨?_, fun i hi => ?_⟩
  · rcases Nat.eq_zero_or_pos W.heap.size with g | g
    · exfalso
      unfold World.cell? at h0
      rw [Array.getElem?_eq_none (by show W.heap.size ≤ _; omega)] at h0
      cases h0
    · omega
  · have : i = 0 ∨ i = 1 ∨ i = 2 ∨ i = 3 ∨ i = 4 ∨ i = 5 ∨ i = 6 := by omega
    rcases this with rfl | rfl | rfl | rfl | rfl | rfl | rfl <;> assumption
structure IsNm (v : Value) (n : Nm) : Prop where
  val : v = nV n
  wf : n.wf
structure IsThree (v : Value) (x : Int × Int × Int) : Prop where
  val : v = .agg #[.int .i64 x.1, .int .i64 x.2.1, .int .i64 x.2.2]
  a : I64 x.1
  b : I64 x.2.1
  c : I64 x.2.2
section
variable {H : Type} {enc : TypeId × Value → H} {w : World} {base : Nat} {held : Bool}
theorem name_trod {n : Nat} {a b : Value} {x : DataW H × List MemPlace} (h : DataW.trod enc Tryd.prog w base (fun _ => true) held n 27 [a, b] = some x) :
    ∃ c : Nm, a = .int .i64 c.s ∧ b = .string c.t ∧ c.wf := by
  obtain ⟨xs, m, _, _, _, hlen, hg⟩ := DataW.trod_struct Tryd.underlying27 h
  have cI : Tryd.prog.cellsOf 3 = 1 := by kernel_rfl
  have cS : Tryd.prog.cellsOf 9 = 1 := by kernel_rfl
  have hl2 : xs.length = 2 := hlen
  have hx : ∀ i, i < xs.length → ∃ y, xs[i]? = some y := fun i hi => ⟨_, List.getElem?_eq_getElem hi⟩
  have g0 : DataW.trod enc Tryd.prog w base (fun _ => true) held m 3 ([a, b].drop 0 |>.take (Tryd.prog.cellsOf 3)) = xs[0]? := hg 0 _ rfl
  have g1 : DataW.trod enc Tryd.prog w base (fun _ => true) held m 9 ([a, b].drop 1 |>.take (Tryd.prog.cellsOf 9)) = xs[1]? := hg 1 _ rfl
  rw [cI] at g0
  rw [cS] at g1
  obtain ⟨y0, e0⟩ := hx 0 (by omega)
  obtain ⟨y1, e1⟩ := hx 1 (by omega)
  obtain ⟨n1, hn1, _, z1⟩ := DataW.trod_int Tryd.underlying3 (g0.trans e0)
  obtain ⟨s2, hs2, _, z2⟩ := DataW.trod_string Tryd.underlying9 (g1.trans e1)
  exact ⟨⟨n1, s2⟩, by simpa using hn1, by simpa using hs2, z1, z2⟩
set_option maxRecDepth 100000 in
theorem read_name {r : Reach} {b0 : Nat} {d : DataW H} {p : List MemPlace} {v : Value}
    (hv : Value.okWide Tryd.prog w r b0 27 v) (h : DataW.Trod enc Tryd.prog w base (fun _ => true) held 27 v d p) : ∃ c : Nm, IsNm v c := by
  obtain ⟨cs, rfl, hsz⟩ := okWide_struct Tryd.underlying27 hv
  obtain ⟨l⟩ := cs
  have h2 : Tryd.prog.cellsOf 27 = 2 := by kernel_rfl
  rw [h2] at hsz
  match l, hsz with
  | [c0, c1], _ =>
    obtain ⟨fuel, hf⟩ := h
    obtain ⟨c, h1, h2, h3⟩ := name_trod hf
    subst h1 h2
    exact ⟨c, rfl, h3⟩
set_option maxRecDepth 100000 in
theorem read_three {r : Reach} {b0 : Nat} {d : DataW H} {p : List MemPlace} {v : Value}
    (hv : Value.okWide Tryd.prog w r b0 49 v) (h : DataW.Trod enc Tryd.prog w base (fun _ => true) held 49 v d p) : ∃ x : Int × Int × Int, IsThree v x := by
  simp only [Value.okWide, Tryd.underlying49] at hv
  obtain ⟨cs, rfl, hsz, _⟩ := hv
  obtain ⟨l⟩ := cs
  have h2 : Tryd.prog.cellsOf 49 = 3 := by kernel_rfl
  rw [h2] at hsz
  have cI : Tryd.prog.cellsOf 3 = 1 := by kernel_rfl
  match l, hsz with
  | [c0, c1, c2], _ =>
    obtain ⟨fuel, hf⟩ := h
    obtain ⟨ys, m, _, _, _, hyl, hy⟩ := DataW.trod_array Tryd.underlying49 hf
    rw [cI] at hy
    have hyx : ∀ i, i < 3 → ∃ y, ys[i]? = some y := fun i hi => ⟨_, List.getElem?_eq_getElem (by omega)⟩
    obtain ⟨u0, f0⟩ := hyx 0 (by omega)
    obtain ⟨u1, f1⟩ := hyx 1 (by omega)
    obtain ⟨u2, f2⟩ := hyx 2 (by omega)
    obtain ⟨n0, h0, _, z0⟩ := DataW.trod_int Tryd.underlying3 ((hy 0 (by omega)).trans f0)
    obtain ⟨n1, h1, _, z1⟩ := DataW.trod_int Tryd.underlying3 ((hy 1 (by omega)).trans f1)
    obtain ⟨n2, h3, _, z2⟩ := DataW.trod_int Tryd.underlying3 ((hy 2 (by omega)).trans f2)
    have hi : ∀ {x : Int}, (Lit.int .i64 x).wf = true → I64 x := fun h => by unfold I64; simpa [Lit.wf, IntKind.min, IntKind.max, IntKind.signed, IntKind.bits] using h
    simp [Value.cells] at h0 h1 h3
    subst h0 h1 h3
    exact ⟨(n0, n1, n2), rfl, hi z0, hi z1, hi z2⟩
end
end Go.Proofs.YtnpnpkaklamboaaDoor
