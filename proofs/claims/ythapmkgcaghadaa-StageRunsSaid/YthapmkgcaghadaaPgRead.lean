/- A page that came in. -/
import Derived.Test.YthapmkgcaghadaaPgPlain
import Derived.Test.YthapmkgcaghadaaProg
import Derived.Test.YthapmkgcaghadaaRead
set_option linter.unusedVariables false
set_option linter.unusedSimpArgs false
namespace Go.Proofs.Ythapmkgcaghadaa
open Go.RowKit Go.ChangeShapes Go.WideShapes Go.ChangeAt Go.Deep

structure IsPage (v : Value) (p : Pg) : Prop where
  val : v = p.v
  bd : (-9223372036854775808 ≤ p.k ∧ p.k ≤ 9223372036854775807) ∧ (-9223372036854775808 ≤ p.l ∧ p.l ≤ 9223372036854775807) ∧ (-9223372036854775808 ≤ p.s ∧ p.s ≤ 9223372036854775807) ∧ (-9223372036854775808 ≤ p.n ∧ p.n ≤ 9223372036854775807)
  cells : ∀ i, i < 6 → (-9223372036854775808 ≤ (p.c i).st ∧ (p.c i).st ≤ 9223372036854775807) ∧ (p.c i).d.size ≤ maxLen
structure IsCell (v : Value) (c : Ce) : Prop where
  val : v = c.v
  bd : -9223372036854775808 ≤ c.st ∧ c.st ≤ 9223372036854775807
  sz : c.d.size ≤ maxLen

section
variable {H : Type} {enc : TypeId × Value → H} {w : World} {base : Nat} {held : Bool}
theorem cell_trod {n : Nat} {a b : Value} {x : DataW H × List MemPlace} (h : DataW.trod enc Try.prog w base (fun _ => true) held n 39 [a, b] = some x) :
    ∃ c : Ce, a = .int .i64 c.st ∧ b = .string c.d ∧ (-9223372036854775808 ≤ c.st ∧ c.st ≤ 9223372036854775807) ∧ c.d.size ≤ maxLen := by
  obtain ⟨xs, m, _, _, _, hlen, hg⟩ := DataW.trod_struct Try.underlying39 h
  have cI : Try.prog.cellsOf 3 = 1 := by kernel_rfl
  have cS : Try.prog.cellsOf 9 = 1 := by kernel_rfl
  have hl2 : xs.length = 2 := hlen
  have hx : ∀ i, i < xs.length → ∃ y, xs[i]? = some y := fun i hi => ⟨_, List.getElem?_eq_getElem hi⟩
  have g0 : DataW.trod enc Try.prog w base (fun _ => true) held m 3 ([a, b].drop 0 |>.take (Try.prog.cellsOf 3)) = xs[0]? := hg 0 _ rfl
  have g1 : DataW.trod enc Try.prog w base (fun _ => true) held m 9 ([a, b].drop 1 |>.take (Try.prog.cellsOf 9)) = xs[1]? := hg 1 _ rfl
  rw [cI] at g0
  rw [cS] at g1
  obtain ⟨y0, e0⟩ := hx 0 (by omega)
  obtain ⟨y1, e1⟩ := hx 1 (by omega)
  obtain ⟨n1, hn1, _, z1⟩ := DataW.trod_int Try.underlying3 (g0.trans e0)
  obtain ⟨s2, hs2, _, z2⟩ := DataW.trod_string Try.underlying9 (g1.trans e1)
  have b1 : -9223372036854775808 ≤ n1 ∧ n1 ≤ 9223372036854775807 := by simpa [Lit.wf, IntKind.min, IntKind.max, IntKind.signed, IntKind.bits] using z1
  exact ⟨⟨n1, s2⟩, by simpa using hn1, by simpa using hs2, b1, z2⟩
theorem read_cell {r : Reach} {b0 : Nat} {d : DataW H} {p : List MemPlace} {v : Value}
    (hv : Value.okWide Try.prog w r b0 39 v) (h : DataW.Trod enc Try.prog w base (fun _ => true) held 39 v d p) : ∃ c : Ce, IsCell v c := by
  obtain ⟨cs, rfl, hsz⟩ := okWide_struct Try.underlying39 hv
  obtain ⟨l⟩ := cs
  have h2 : Try.prog.cellsOf 39 = 2 := by kernel_rfl
  rw [h2] at hsz
  match l, hsz with
  | [c0, c1], _ =>
    obtain ⟨fuel, hf⟩ := h
    obtain ⟨c, h1, h2, h3, h4⟩ := cell_trod hf
    subst h1 h2
    exact ⟨c, rfl, h3, h4⟩
theorem read_page {r : Reach} {b0 : Nat} {d : DataW H} {p : List MemPlace} {v : Value}
    (hv : Value.okWide Try.prog w r b0 42 v) (h : DataW.Trod enc Try.prog w base (fun _ => true) held 42 v d p) : ∃ q : Pg, IsPage v q := by
  obtain ⟨cs, rfl, hsz⟩ := okWide_struct Try.underlying42 hv
  obtain ⟨l⟩ := cs
  have h16 : Try.prog.cellsOf 42 = 16 := by kernel_rfl
  rw [h16] at hsz
  have cI : Try.prog.cellsOf 3 = 1 := by kernel_rfl
  have cC : Try.prog.cellsOf 39 = 2 := by kernel_rfl
  have cA : Try.prog.cellsOf 40 = 12 := by kernel_rfl
  match l, hsz with
  | [c0, c1, c2, c3, c4, c5, c6, c7, c8, c9, c10, c11, c12, c13, c14, c15], _ =>
    obtain ⟨fuel, hf⟩ := h
    obtain ⟨xs, n, _, hxd, hpl, hlen, hg⟩ := DataW.trod_struct Try.underlying42 hf
    have hx : ∀ i, i < xs.length → ∃ y, xs[i]? = some y := fun i hi => ⟨_, List.getElem?_eq_getElem hi⟩
    have hl5 : xs.length = 5 := hlen
    generalize hL : [c0, c1, c2, c3, c4, c5, c6, c7, c8, c9, c10, c11, c12, c13, c14, c15] = L at hg
    have g0 : DataW.trod enc Try.prog w base (fun _ => true) held n 3 (L.drop 0 |>.take (Try.prog.cellsOf 3)) = xs[0]? := hg 0 _ rfl
    have g1 : DataW.trod enc Try.prog w base (fun _ => true) held n 3 (L.drop 1 |>.take (Try.prog.cellsOf 3)) = xs[1]? := hg 1 _ rfl
    have g2 : DataW.trod enc Try.prog w base (fun _ => true) held n 3 (L.drop 2 |>.take (Try.prog.cellsOf 3)) = xs[2]? := hg 2 _ rfl
    have g3 : DataW.trod enc Try.prog w base (fun _ => true) held n 3 (L.drop 3 |>.take (Try.prog.cellsOf 3)) = xs[3]? := hg 3 _ rfl
    have g4 : DataW.trod enc Try.prog w base (fun _ => true) held n 40 (L.drop 4 |>.take (Try.prog.cellsOf 40)) = xs[4]? := hg 4 _ rfl
    subst hL
    rw [cI] at g0 g1 g2 g3
    rw [cA] at g4
    obtain ⟨y0, e0⟩ := hx 0 (by omega)
    obtain ⟨y1, e1⟩ := hx 1 (by omega)
    obtain ⟨y2, e2⟩ := hx 2 (by omega)
    obtain ⟨y3, e3⟩ := hx 3 (by omega)
    obtain ⟨y4, e4⟩ := hx 4 (by omega)
    obtain ⟨n0, hn0, _, z0⟩ := DataW.trod_int Try.underlying3 (g0.trans e0)
    obtain ⟨n1, hn1, _, z1⟩ := DataW.trod_int Try.underlying3 (g1.trans e1)
    obtain ⟨n2, hn2, _, z2⟩ := DataW.trod_int Try.underlying3 (g2.trans e2)
    obtain ⟨n3, hn3, _, z3⟩ := DataW.trod_int Try.underlying3 (g3.trans e3)
    obtain ⟨ys, m, _, _, _, hyl, hy⟩ := DataW.trod_array Try.underlying40 (g4.trans e4)
    rw [cC] at hy
    have hyx : ∀ i, i < 6 → ∃ y, ys[i]? = some y := fun i hi => ⟨_, List.getElem?_eq_getElem (by omega)⟩
    obtain ⟨u0, f0⟩ := hyx 0 (by omega)
    obtain ⟨u1, f1⟩ := hyx 1 (by omega)
    obtain ⟨u2, f2⟩ := hyx 2 (by omega)
    obtain ⟨u3, f3⟩ := hyx 3 (by omega)
    obtain ⟨u4, f4⟩ := hyx 4 (by omega)
    obtain ⟨u5, f5⟩ := hyx 5 (by omega)
    obtain ⟨k0, a0, b0, m0, s0⟩ := cell_trod (a := c4) (b := c5) ((hy 0 (by omega)).trans f0)
    obtain ⟨k1, a1, b1, m1, s1⟩ := cell_trod (a := c6) (b := c7) ((hy 1 (by omega)).trans f1)
    obtain ⟨k2, a2, b2, m2, s2⟩ := cell_trod (a := c8) (b := c9) ((hy 2 (by omega)).trans f2)
    obtain ⟨k3, a3, b3, m3, s3⟩ := cell_trod (a := c10) (b := c11) ((hy 3 (by omega)).trans f3)
    obtain ⟨k4, a4, b4, m4, s4⟩ := cell_trod (a := c12) (b := c13) ((hy 4 (by omega)).trans f4)
    obtain ⟨k5, a5, b5, m5, s5⟩ := cell_trod (a := c14) (b := c15) ((hy 5 (by omega)).trans f5)
    have hi : ∀ {x : Int}, (Lit.int .i64 x).wf = true → -9223372036854775808 ≤ x ∧ x ≤ 9223372036854775807 := fun h => by simpa [Lit.wf, IntKind.min, IntKind.max, IntKind.signed, IntKind.bits] using h
    simp at hn0 hn1 hn2 hn3
    subst hn0 hn1 hn2 hn3 a0 b0 a1 b1 a2 b2 a3 b3 a4 b4 a5 b5
    refine ⟨⟨n0, n1, n2, n3, fun i => if i = 0 then k0 else if i = 1 then k1 else if i = 2 then k2 else if i = 3 then k3 else if i = 4 then k4 else k5⟩, rfl, ⟨hi z0, hi z1, hi z2, hi z3⟩, fun i hi6 => ?_⟩
    rcases six hi6 with rfl | rfl | rfl | rfl | rfl | rfl
    · exact ⟨m0, s0⟩
    · exact ⟨m1, s1⟩
    · exact ⟨m2, s2⟩
    · exact ⟨m3, s3⟩
    · exact ⟨m4, s4⟩
    · exact ⟨m5, s5⟩
end
end Go.Proofs.Ythapmkgcaghadaa
