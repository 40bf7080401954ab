/- Calls that came in. -/
import Derived.Test.YtnpnpkaklamboaaDoorLkAll0
set_option linter.unusedVariables false
set_option linter.unusedSimpArgs false
namespace Go.Proofs.YtnpnpkaklamboaaDoor
open Go.RowKit Go.ChangeShapes Go.WideShapes Go.ChangeAt Go.Deep

structure Cl where
  x : Int
  n : Nm
  m : Int
def Cl.zero : Cl := ⟨0, ⟨0, ⟨#[]⟩⟩, 0⟩
@[reducible] def cC (c : Cl) : List Value := [.int .i64 c.x, .int .i64 c.n.s, .string c.n.t, .int .i64 c.m]
@[reducible] def cV (c : Cl) : Value := .agg #[.int .i64 c.x, .int .i64 c.n.s, .string c.n.t, .int .i64 c.m]
structure Cl.in_ (c : Cl) : Prop where
  x : I64 c.x
  n : c.n.wf
  m : I64 c.m
/-- Where they lie. -/
structure ClAt (w : World) (B : Nat) (v : Value) (l : List Cl) : Prop where
  at_ : ∃ a c, v = .slice a l.length c ∧ ∀ j (hj : j < l.length), ∃ b off, a = some ⟨b, off, none⟩ ∧ b < B ∧ w.rangeAt b (off + j * 4) (cC l[j])
  len : l.length ≤ maxLen
  bd : ∀ c, c ∈ l → c.in_
theorem ClAt.below {w w' : World} {B : Nat} {v : Value} {l : List Cl} (h : ClAt w B v l) (hb : Below B w w') : ClAt w' B v l := by
  obtain ⟨⟨a, c, e, hj⟩, h2, h3⟩ := h
  refine ⟨⟨a, c, e, fun j hlt => ?_⟩, h2, h3⟩
  obtain ⟨b, off, e1, e2, e3⟩ := hj j hlt
  exact ⟨b, off, e1, e2, fun i u hu => by rw [hb.cell (p := ⟨b, off + j * 4 + i, none⟩) e2]; exact e3 i u hu⟩
section
variable {H : Type} {enc : TypeId × Value → H} {w : World} {base : Nat} {held : Bool}
theorem rows_trod {P : Program} {t e : TypeId} {C : Nat} {fuel : Nat} {v : Value} {x : DataW H × List MemPlace} (ht : P.underlying t = some (.slice e)) (hC : P.cellsOf e = C) (h0 : 0 < C)
    (h : DataW.trod enc P w base (fun _ => true) held fuel t [v] = some x) :
    ∃ a len cap, v = .slice a len cap ∧ len ≤ cap ∧ cap ≤ maxLen ∧ SzOf x.1 cap ∧ (a = none → len = 0 ∧ cap = 0) ∧ ∃ L : Nat → List Value, (∀ i, i < len → (L i).length = C ∧ ∃ n y, DataW.trod enc P w base (fun _ => true) held n e (L i) = some y) ∧
      (0 < len → ∃ b off, a = some (⟨b, off, none⟩ : Addr) ∧ b < w.heap.size ∧ ∀ i j u, i < len → (L i)[j]? = some u → w.cell? ⟨b, off + i * C + j, none⟩ = some u) := by
  rcases open_slice ht h with ⟨hcs, rfl⟩ | ⟨y, len, cap, m, n, D, Pl, hcs, hb, hl, hm, hmm, hx, hi⟩
  · simp at hcs
    exact ⟨none, 0, 0, hcs, Nat.le_refl _, Nat.zero_le _, .inl rfl, (fun _ => ⟨rfl, rfl⟩), fun _ => [], fun i hi => absurd hi (Nat.not_lt_zero i), fun h => absurd h (Nat.lt_irrefl 0)⟩
  · simp at hcs
    simp only [if_true] at hmm
    obtain rfl : cap = m := by omega
    have hall : ∀ i, ∃ l : List Value, i < len → l.length = C ∧ (∃ n y, DataW.trod enc P w base (fun _ => true) held n e l = some y) ∧ ∀ j, j < C → w.cell? (y.add (i * C + j)) = l[j]? := by
      intro i
      by_cases hil : i < len
      · have hh := hi i (by omega)
        rw [hC] at hh
        obtain ⟨cs', hc, ht'⟩ := hh
        obtain ⟨_, hcl, hat⟩ := World.cells?_some hc
        exact ⟨cs', fun _ => ⟨hcl, ⟨_, _, ht'⟩, fun j hj => by rw [← add_add]; exact hat j hj⟩⟩
      · exact ⟨[], fun h => absurd h hil⟩
    refine ⟨some y, len, cap, hcs, hl, hm, (.inr ⟨_, _, by rw [hx], by simp; omega⟩), (fun h => by cases h), fun i => (hall i).choose, fun i hil => ⟨((hall i).choose_spec hil).1, ((hall i).choose_spec hil).2.1⟩, fun hlen => ?_⟩
    obtain ⟨b, off, e1, hlt, hc⟩ := mk_at (size := C) (len := len) (f := fun i j => ((hall i).choose)[j]?.getD .nilIface) hlen h0 (fun i j hi' hj => by
      obtain ⟨g1, _, g3⟩ := (hall i).choose_spec hi'
      rw [g3 j hj]
      have : j < (hall i).choose.length := by omega
      rw [List.getElem?_eq_getElem this]
      rfl)
    refine ⟨b, off, e1, hlt, fun i j u hi' hu => ?_⟩
    have hjl := (List.getElem?_eq_some_iff.1 hu).1
    have := hc i j hi' (by rw [((hall i).choose_spec hi').1] at hjl; exact hjl)
    rw [Nat.add_assoc, this, hu]
    rfl
theorem int_in9 {x : Int} (h : (Lit.int .i64 x).wf = true) : I64 x := by unfold I64; simpa [Lit.wf, IntKind.min, IntKind.max, IntKind.signed, IntKind.bits] using h
set_option maxRecDepth 100000 in
theorem call_trod {n : Nat} {L : List Value} {x : DataW H × List MemPlace} (hlen : L.length = 4) (h : DataW.trod enc Tryd.prog w base (fun _ => true) held n 29 L = some x) :
    ∃ c : Cl, L = cC c ∧ c.in_ := by
  match L, hlen with
  | [c0, c1, c2, c3], _ =>
    obtain ⟨xs, m, _, _, _, hl, hg⟩ := DataW.trod_struct Tryd.underlying29 h
    have cI : Tryd.prog.cellsOf 3 = 1 := by kernel_rfl
    have cN : Tryd.prog.cellsOf 27 = 2 := by kernel_rfl
    have hl3 : xs.length = 3 := hl
    have hx : ∀ i, i < xs.length → ∃ y, xs[i]? = some y := fun i hi => ⟨_, List.getElem?_eq_getElem hi⟩
    have g0 : DataW.trod enc Tryd.prog w base (fun _ => true) held m 3 ([c0, c1, c2, c3].drop 0 |>.take (Tryd.prog.cellsOf 3)) = xs[0]? := hg 0 _ rfl
    have g1 : DataW.trod enc Tryd.prog w base (fun _ => true) held m 27 ([c0, c1, c2, c3].drop 1 |>.take (Tryd.prog.cellsOf 27)) = xs[1]? := hg 1 _ rfl
    have g2 : DataW.trod enc Tryd.prog w base (fun _ => true) held m 3 ([c0, c1, c2, c3].drop 3 |>.take (Tryd.prog.cellsOf 3)) = xs[2]? := hg 2 _ rfl
    rw [cI] at g0 g2
    rw [cN] at g1
    obtain ⟨y0, e0⟩ := hx 0 (by omega)
    obtain ⟨y1, e1⟩ := hx 1 (by omega)
    obtain ⟨y2, e2⟩ := hx 2 (by omega)
    obtain ⟨n0, h0, _, z0⟩ := DataW.trod_int Tryd.underlying3 (g0.trans e0)
    obtain ⟨n2, h2, _, z2⟩ := DataW.trod_int Tryd.underlying3 (g2.trans e2)
    obtain ⟨nn, h3, h4, h5⟩ := name_trod (a := c1) (b := c2) (g1.trans e1)
    simp at h0 h2
    subst h0 h2 h3 h4
    exact ⟨⟨n0, nn, n2⟩, rfl, int_in9 z0, h5, int_in9 z2⟩
set_option maxRecDepth 100000 in
theorem read_calls {r : Reach} {b0 : Nat} {d : DataW H} {p : List MemPlace} {v : Value}
    (hv : Value.okWide Tryd.prog w r b0 22 v) (h : DataW.Trod enc Tryd.prog w base (fun _ => true) held 22 v d p) : ∃ l : List Cl, ClAt w w.heap.size v l := by
  obtain ⟨fuel, hf⟩ := h
  obtain ⟨a0, len0, cap0, rfl⟩ := okWide_slice Tryd.underlying22 hv
  have hf' : DataW.trod enc Tryd.prog w base (fun _ => true) held fuel 22 [.slice a0 len0 cap0] = some (d, p) := hf
  obtain ⟨a, len, cap, hve, h1, h2, _, _, L, hL, hat⟩ := rows_trod (C := 4) Tryd.underlying22 (by kernel_rfl) (by omega) hf'
  rw [hve]
  have him : ∀ i, ∃ mm : Cl, i < len → L i = cC mm ∧ mm.in_ := by
    intro i
    by_cases hi : i < len
    · obtain ⟨hlen, n, y, ht⟩ := hL i hi
      obtain ⟨mm, h1⟩ := call_trod hlen ht
      exact ⟨mm, fun _ => h1⟩
    · exact ⟨Cl.zero, fun h => absurd h hi⟩
  have hll : ((List.range len).map fun i => (him i).choose).length = len := by simp
  refine ⟨(List.range len).map fun i => (him i).choose, ⟨a, cap, by rw [hll], fun j hj => ?_⟩, by rw [hll]; omega, fun i hi => ?_⟩
  · have hj' : j < len := by rwa [hll] at hj
    obtain ⟨b, off, e1, hlt, hc⟩ := hat (by omega)
    refine ⟨b, off, e1, hlt, fun i u hu => ?_⟩
    refine hc j i u hj' ?_
    rw [((him j).choose_spec hj').1]
    simpa using hu
  · obtain ⟨k, hk, rfl⟩ := List.mem_map.1 hi
    exact ((him k).choose_spec (List.mem_range.1 hk)).2
end
section
variable {ops : Array Oper} {rest : List Oper} {o : Oper} {a : Act} {w : World} {Q : Exit → Act → World → Prop}
theorem load_cl (hgd : o.guard = none) (x : Operand) (ho : o.op = .load 29 x) (b off : Nat) (c : Cl) (hx : a.eval x = .pointer (some ⟨b, off, none⟩)) (hr : w.rangeAt b off (cC c))
    (hK : wpList Tryd.prog ops Q rest (a.put o.dst (cV c)) w) : wpList Tryd.prog ops Q (o :: rest) a w :=
  wpList_load_mid hgd 29 x ho b off hx (cC c) _ hr Tryd.underlying29 rfl (by kernel_rfl) hK
end
end Go.Proofs.YtnpnpkaklamboaaDoor
