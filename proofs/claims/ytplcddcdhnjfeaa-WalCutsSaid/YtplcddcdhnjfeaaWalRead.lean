/- What came in for WalPrefix and WalGoesOn: structs of slices. -/
import Derived.Test.YtplcddcdhnjfeaaWalPre
import Derived.Test.YtplcddcdhnjfeaaDskWalk5
import Derived.Test.YtplcddcdhnjfeaaSq
set_option linter.unusedVariables false
set_option linter.unusedSimpArgs false
namespace Go.Proofs.Ytplcddcdhnjfeaa
open Go.RowKit Go.ChangeShapes Go.WideShapes Go.ChangeAt Go.Deep

def rg64 (x : Int) : Prop := -9223372036854775808 ≤ x ∧ x ≤ 9223372036854775807
section
variable {H : Type} {enc : TypeId × Value → H} {w : World} {base : Nat} {held : Bool}
/-- A slice of one-cell elements. -/
theorem col_trod {P : Program} {t e : TypeId} {fuel : Nat} {v : Value} {x : DataW H × List MemPlace} (ht : P.underlying t = some (.slice e)) (hC : P.cellsOf e = 1)
    (h : DataW.trod enc P w base (fun _ => true) held fuel t [v] = some x) :
    ∃ (m : Nat) (f : Nat → Value), Sq w w.heap.size v m f ∧ m ≤ maxLen ∧ ∀ i, i < m → ∃ n y, DataW.trod enc P w base (fun _ => true) held n e [f i] = some y := by
  rcases open_slice ht h with ⟨hcs, rfl⟩ | ⟨y, len, cap, m, n, D, Pl, hcs, hb, hl, hm, hmm, hx, hi⟩
  · simp at hcs
    exact ⟨0, fun _ => .nilIface, ⟨none, 0, hcs, fun h => absurd h (Nat.lt_irrefl 0)⟩, Nat.zero_le _, fun i hi => absurd hi (Nat.not_lt_zero i)⟩
  · simp at hcs
    simp only [if_true] at hmm
    obtain rfl : cap = m := by omega
    have hall : ∀ i, ∃ u : Value, i < len → (∃ n y, DataW.trod enc P w base (fun _ => true) held n e [u] = some y) ∧ w.cell? (y.add i) = some u := by
      intro i
      by_cases hil : i < len
      · have hh := hi i (by omega)
        rw [hC] at hh
        obtain ⟨cs', hc, ht'⟩ := hh
        obtain ⟨_, hcl, hat⟩ := World.cells?_some hc
        match cs', hcl with
        | [u], _ =>
          have := hat 0 (by omega)
          rw [add_add, Nat.mul_one] at this
          exact ⟨u, fun _ => ⟨⟨_, _, ht'⟩, by simpa using this⟩⟩
      · exact ⟨.nilIface, fun h => absurd h hil⟩
    refine ⟨len, fun i => (hall i).choose, ⟨some y, cap, hcs, fun hlen => ?_⟩, by omega, fun i hil => ((hall i).choose_spec hil).1⟩
    obtain ⟨b, off, e1, hlt, hc⟩ := mk_at (size := 1) (len := len) (f := fun i j => (hall i).choose) hlen (by omega) (fun i j hi' hj => by
      obtain rfl : j = 0 := by omega
      rw [Nat.mul_one, Nat.add_zero]
      exact ((hall i).choose_spec hi').2)
    exact ⟨b, off, e1, hlt, fun i hi' => by have := hc i 0 hi' (by omega); rw [Nat.mul_one, Nat.add_zero] at this; exact this⟩
theorem texts_col {n : Nat} {v : Value} {x : DataW H × List MemPlace} (h : DataW.trod enc Try.prog w base (fun _ => true) held n 22 [v] = some x) :
    ∃ (m : Nat) (s : Nat → ByteArray), Sq w w.heap.size v m (fun i => .string (s i)) ∧ m ≤ maxLen ∧ ∀ i, i < m → (s i).size ≤ maxLen := by
  obtain ⟨m, f, hq, hm, hf⟩ := col_trod Try.underlying22 (by kernel_rfl) h
  have hk : ∀ i, ∃ s : ByteArray, i < m → f i = .string s ∧ s.size ≤ maxLen := by
    intro i
    by_cases hi : i < m
    · obtain ⟨n, y, h0⟩ := hf i hi
      obtain ⟨s, hs, _, hw⟩ := DataW.trod_string Try.underlying9 h0
      exact ⟨s, fun _ => ⟨by simpa using hs, hw⟩⟩
    · exact ⟨⟨#[]⟩, fun h => absurd h hi⟩
  obtain ⟨a, c, e, hh⟩ := hq
  refine ⟨m, fun i => (hk i).choose, ⟨a, c, e, fun h0 => ?_⟩, hm, fun i hi => ((hk i).choose_spec hi).2⟩
  obtain ⟨b, off, e1, hlt, hc⟩ := hh h0
  exact ⟨b, off, e1, hlt, fun i hi => by rw [hc i hi, ((hk i).choose_spec hi).1]⟩
theorem ints_col {n : Nat} {v : Value} {x : DataW H × List MemPlace} (h : DataW.trod enc Try.prog w base (fun _ => true) held n 23 [v] = some x) :
    ∃ (m : Nat) (s : Nat → Int), Sq w w.heap.size v m (fun i => .int .i64 (s i)) ∧ m ≤ maxLen := by
  obtain ⟨m, f, hq, hm, hf⟩ := col_trod Try.underlying23 (by kernel_rfl) h
  have hk : ∀ i, ∃ s : Int, i < m → f i = .int .i64 s := by
    intro i
    by_cases hi : i < m
    · obtain ⟨n, y, h0⟩ := hf i hi
      obtain ⟨s, hs, _⟩ := DataW.trod_int Try.underlying3 h0
      exact ⟨s, fun _ => by simpa using hs⟩
    · exact ⟨0, fun h => absurd h hi⟩
  obtain ⟨a, c, e, hh⟩ := hq
  refine ⟨m, fun i => (hk i).choose, ⟨a, c, e, fun h0 => ?_⟩, hm⟩
  obtain ⟨b, off, e1, hlt, hc⟩ := hh h0
  exact ⟨b, off, e1, hlt, fun i hi => by rw [hc i hi, (hk i).choose_spec hi]⟩
theorem bools_col {n : Nat} {v : Value} {x : DataW H × List MemPlace} (h : DataW.trod enc Try.prog w base (fun _ => true) held n 24 [v] = some x) :
    ∃ (m : Nat) (s : Nat → Bool), Kb w w.heap.size v m s ∧ m ≤ maxLen := by
  obtain ⟨m, f, hq, hm, hf⟩ := col_trod Try.underlying24 (by kernel_rfl) h
  have hk : ∀ i, ∃ s : Bool, i < m → f i = .bool s := by
    intro i
    by_cases hi : i < m
    · obtain ⟨n, y, h0⟩ := hf i hi
      obtain ⟨s, hs, _⟩ := DataW.trod_bool Try.underlying4 h0
      exact ⟨s, fun _ => by simpa using hs⟩
    · exact ⟨false, fun h => absurd h hi⟩
  obtain ⟨a, c, e, hh⟩ := hq
  refine ⟨m, fun i => (hk i).choose, ⟨a, c, e, fun h0 => ?_⟩, hm⟩
  obtain ⟨b, off, e1, hlt, hc⟩ := hh h0
  exact ⟨b, off, e1, hlt, fun i hi => by rw [hc i hi, (hk i).choose_spec hi]⟩
theorem rg_lit {x : Int} (h : (Lit.int .i64 x).wf = true) : rg64 x := by
  have : -9223372036854775808 ≤ x ∧ x ≤ 9223372036854775807 := by simpa [Lit.wf, IntKind.min, IntKind.max, IntKind.signed, IntKind.bits] using h
  exact this
theorem at_len {α : Type} {l : List α} {n : Nat} (h : l.length = n) : ∀ i, i < n → ∃ y, l[i]? = some y := fun i hi => ⟨_, List.getElem?_eq_getElem (by omega)⟩
/-- What came in for WalPrefix. -/
structure Crd where
  rv : Value
  mr : Nat
  s : Nat → ByteArray
  fv : Value
  mf : Nat
  fl : Nat → Int
  fuel : Int
  kv : Value
  mkp : Nat
  kb : Nat → Bool
  more : Int
  av : Value
  ma : Nat
  ab : Nat → Bool
def Crd.cs (q : Crd) : Array Value := #[q.rv, q.fv, .int .i64 q.fuel, q.kv, .int .i64 q.more, q.av]
structure IsCrd (w : World) (v : Value) (q : Crd) : Prop where
  val : v = .agg q.cs
  recs : Sq w w.heap.size q.rv q.mr (fun i => .string (q.s i))
  rmax : q.mr ≤ maxLen
  sizes : ∀ i, i < q.mr → (q.s i).size ≤ maxLen
  flush : Sq w w.heap.size q.fv q.mf (fun i => .int .i64 (q.fl i))
  fmax : q.mf ≤ maxLen
  keep : Kb w w.heap.size q.kv q.mkp q.kb
  again : Kb w w.heap.size q.av q.ma q.ab
  kmax : q.mkp ≤ maxLen ∧ q.ma ≤ maxLen
  fu : rg64 q.fuel
  mo : rg64 q.more
set_option maxRecDepth 100000 in
theorem read_crashed {r : Reach} {b0 : Nat} {d : DataW H} {p : List MemPlace} {v : Value}
    (hv : Value.okWide Try.prog w r b0 26 v) (h : DataW.Trod enc Try.prog w base (fun _ => true) held 26 v d p) : ∃ q : Crd, IsCrd w v q := by
  obtain ⟨cs, rfl, hsz⟩ := okWide_struct Try.underlying26 hv
  obtain ⟨l⟩ := cs
  have h6 : Try.prog.cellsOf 26 = 6 := by kernel_rfl
  rw [h6] at hsz
  have cI : Try.prog.cellsOf 3 = 1 := by kernel_rfl
  have cS : Try.prog.cellsOf 22 = 1 := by kernel_rfl
  have cF : Try.prog.cellsOf 23 = 1 := by kernel_rfl
  have cB : Try.prog.cellsOf 24 = 1 := by kernel_rfl
  match l, hsz with
  | [c0, c1, c2, c3, c4, c5], _ =>
    obtain ⟨fuel, hf⟩ := h
    obtain ⟨xs, m, _, hxd, _, hl, hg⟩ := DataW.trod_struct Try.underlying26 hf
    have hl6 : xs.length = 6 := hl
    generalize hL : [c0, c1, c2, c3, c4, c5] = L at hg
    have g0 : DataW.trod enc Try.prog w base (fun _ => true) held m 22 (L.drop 0 |>.take (Try.prog.cellsOf 22)) = xs[0]? := hg 0 _ rfl
    have g1 : DataW.trod enc Try.prog w base (fun _ => true) held m 23 (L.drop 1 |>.take (Try.prog.cellsOf 23)) = xs[1]? := hg 1 _ rfl
    have g2 : DataW.trod enc Try.prog w base (fun _ => true) held m 3 (L.drop 2 |>.take (Try.prog.cellsOf 3)) = xs[2]? := hg 2 _ rfl
    have g3 : DataW.trod enc Try.prog w base (fun _ => true) held m 24 (L.drop 3 |>.take (Try.prog.cellsOf 24)) = xs[3]? := hg 3 _ rfl
    have g4 : DataW.trod enc Try.prog w base (fun _ => true) held m 3 (L.drop 4 |>.take (Try.prog.cellsOf 3)) = xs[4]? := hg 4 _ rfl
    have g5 : DataW.trod enc Try.prog w base (fun _ => true) held m 24 (L.drop 5 |>.take (Try.prog.cellsOf 24)) = xs[5]? := hg 5 _ rfl
    subst hL
    rw [cI] at g2 g4
    rw [cS] at g0
    rw [cF] at g1
    rw [cB] at g3 g5
    obtain ⟨y0, e0⟩ := at_len hl6 0 (by omega)
    obtain ⟨y1, e1⟩ := at_len hl6 1 (by omega)
    obtain ⟨y2, e2⟩ := at_len hl6 2 (by omega)
    obtain ⟨y3, e3⟩ := at_len hl6 3 (by omega)
    obtain ⟨y4, e4⟩ := at_len hl6 4 (by omega)
    obtain ⟨y5, e5⟩ := at_len hl6 5 (by omega)
    obtain ⟨n2, hn2, _, z2⟩ := DataW.trod_int Try.underlying3 (g2.trans e2)
    obtain ⟨n4, hn4, _, z4⟩ := DataW.trod_int Try.underlying3 (g4.trans e4)
    simp at hn2 hn4
    subst hn2 hn4
    obtain ⟨mr, s, r1, r2, r3⟩ := texts_col (v := c0) (g0.trans e0)
    obtain ⟨mf, fl, f1, f2⟩ := ints_col (v := c1) (g1.trans e1)
    obtain ⟨mk, kb, k1, k2⟩ := bools_col (v := c3) (g3.trans e3)
    obtain ⟨ma, ab, a1, a2⟩ := bools_col (v := c5) (g5.trans e5)
    exact ⟨⟨c0, mr, s, c1, mf, fl, n2, c3, mk, kb, n4, c5, ma, ab⟩, ⟨rfl, r1, r2, r3, f1, f2, k1, a1, ⟨k2, a2⟩, rg_lit z2, rg_lit z4⟩⟩
end
end Go.Proofs.Ytplcddcdhnjfeaa
