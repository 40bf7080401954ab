/- What came in for WalGoesOn. -/
import Derived.Test.YtplcddcdhnjfeaaWalRead
set_option linter.unusedVariables false
set_option linter.unusedSimpArgs false
namespace Go.Proofs.Ytplcddcdhnjfeaa
open Go.RowKit Go.ChangeShapes Go.WideShapes Go.ChangeAt Go.Deep

section
variable {H : Type} {enc : TypeId × Value → H} {w : World} {base : Nat} {held : Bool}
/-- What came in for WalGoesOn. -/
structure Gon where
  rv : Value
  mr : Nat
  s : Nat → ByteArray
  nv : Value
  mn : Nat
  t : Nat → ByteArray
  flush : Int
  kv : Value
  mkp : Nat
  kb : Nat → Bool
  av : Value
  ma : Nat
  ab : Nat → Bool
def Gon.cs (q : Gon) : Array Value := #[q.rv, q.nv, .int .i64 q.flush, q.kv, q.av]
structure IsGon (w : World) (v : Value) (q : Gon) : Prop where
  val : v = .agg q.cs
  recs : Sq w w.heap.size q.rv q.mr (fun i => .string (q.s i))
  rmax : q.mr ≤ maxLen
  sizes : ∀ i, i < q.mr → (q.s i).size ≤ maxLen
  next : Sq w w.heap.size q.nv q.mn (fun i => .string (q.t i))
  nmax : q.mn ≤ maxLen
  nsizes : ∀ i, i < q.mn → (q.t i).size ≤ maxLen
  keep : Kb w w.heap.size q.kv q.mkp q.kb
  again : Kb w w.heap.size q.av q.ma q.ab
  kmax : q.mkp ≤ maxLen ∧ q.ma ≤ maxLen
  fu : rg64 q.flush
set_option maxRecDepth 100000 in
theorem read_goneon {r : Reach} {b0 : Nat} {d : DataW H} {p : List MemPlace} {v : Value}
    (hv : Value.okWide Try.prog w r b0 49 v) (h : DataW.Trod enc Try.prog w base (fun _ => true) held 49 v d p) : ∃ q : Gon, IsGon w v q := by
  obtain ⟨cs, rfl, hsz⟩ := okWide_struct Try.underlying49 hv
  obtain ⟨l⟩ := cs
  have h5 : Try.prog.cellsOf 49 = 5 := by kernel_rfl
  rw [h5] at hsz
  have cI : Try.prog.cellsOf 3 = 1 := by kernel_rfl
  have cS : Try.prog.cellsOf 22 = 1 := by kernel_rfl
  have cB : Try.prog.cellsOf 24 = 1 := by kernel_rfl
  match l, hsz with
  | [c0, c1, c2, c3, c4], _ =>
    obtain ⟨fuel, hf⟩ := h
    obtain ⟨xs, m, _, hxd, _, hl, hg⟩ := DataW.trod_struct Try.underlying49 hf
    have hl5 : xs.length = 5 := hl
    generalize hL : [c0, c1, c2, c3, c4] = L at hg
    have g0 : DataW.trod enc Try.prog w base (fun _ => true) held m 22 (L.drop 0 |>.take (Try.prog.cellsOf 22)) = xs[0]? := hg 0 _ rfl
    have g1 : DataW.trod enc Try.prog w base (fun _ => true) held m 22 (L.drop 1 |>.take (Try.prog.cellsOf 22)) = xs[1]? := hg 1 _ rfl
    have g2 : DataW.trod enc Try.prog w base (fun _ => true) held m 3 (L.drop 2 |>.take (Try.prog.cellsOf 3)) = xs[2]? := hg 2 _ rfl
    have g3 : DataW.trod enc Try.prog w base (fun _ => true) held m 24 (L.drop 3 |>.take (Try.prog.cellsOf 24)) = xs[3]? := hg 3 _ rfl
    have g4 : DataW.trod enc Try.prog w base (fun _ => true) held m 24 (L.drop 4 |>.take (Try.prog.cellsOf 24)) = xs[4]? := hg 4 _ rfl
    subst hL
    rw [cI] at g2
    rw [cS] at g0 g1
    rw [cB] at g3 g4
    obtain ⟨y0, e0⟩ := at_len hl5 0 (by omega)
    obtain ⟨y1, e1⟩ := at_len hl5 1 (by omega)
    obtain ⟨y2, e2⟩ := at_len hl5 2 (by omega)
    obtain ⟨y3, e3⟩ := at_len hl5 3 (by omega)
    obtain ⟨y4, e4⟩ := at_len hl5 4 (by omega)
    obtain ⟨n2, hn2, _, z2⟩ := DataW.trod_int Try.underlying3 (g2.trans e2)
    simp at hn2
    subst hn2
    obtain ⟨mr, s, r1, r2, r3⟩ := texts_col (v := c0) (g0.trans e0)
    obtain ⟨mn, t, f1, f2, f3⟩ := texts_col (v := c1) (g1.trans e1)
    obtain ⟨mk, kb, k1, k2⟩ := bools_col (v := c3) (g3.trans e3)
    obtain ⟨ma, ab, a1, a2⟩ := bools_col (v := c4) (g4.trans e4)
    exact ⟨⟨c0, mr, s, c1, mn, t, n2, c3, mk, kb, c4, ma, ab⟩, ⟨rfl, r1, r2, r3, f1, f2, f3, k1, a1, ⟨k2, a2⟩, rg_lit z2⟩⟩
end
end Go.Proofs.Ytplcddcdhnjfeaa
