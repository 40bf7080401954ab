/- Slices that came in, element by element; an operation, what PlanPure and its kin take. -/
import Derived.Test.YtokghbppdmlfkaaDoorPlnAwake
import Derived.Test.YtokghbppdmlfkaaDoorRead
import Derived.Test.YtokghbppdmlfkaaDoorRows
set_option linter.unusedVariables false
set_option linter.unusedSimpArgs false
namespace Go.Proofs.YtokghbppdmlfkaaDoor
open Go.RowKit Go.ChangeShapes Go.WideShapes Go.ChangeAt Go.Deep

/-- What came in for PlanPure. -/
def plcs (o : Opn) (nx : ByteArray) (kv : Value) (err : Int) : Array Value := #[.int .i64 o.k, .int .i64 o.st, .string o.key, .string o.val, .int .i64 o.num, .int .i64 o.at_, .int .i64 o.len, .string nx, kv, .int .i64 err]
def in64 (x : Int) : Prop := -9223372036854775808 ≤ x ∧ x ≤ 9223372036854775807
section
variable {H : Type} {enc : TypeId × Value → H} {w : World} {base : Nat} {held : Bool}
/-- A slice whose elements have C cells each. -/
theorem rows_trod {P : Program} {t e : TypeId} {C : Nat} {fuel : Nat} {v : Value} {x : DataW H × List MemPlace} (ht : P.underlying t = some (.slice e)) (hC : P.cellsOf e = C) (h0 : 0 < C)
    (h : DataW.trod enc P w base (fun _ => true) held fuel t [v] = some x) :
    ∃ a len cap, v = .slice a len cap ∧ len ≤ cap ∧ cap ≤ maxLen ∧ SzOf x.1 cap ∧ (a = none → len = 0 ∧ cap = 0) ∧ ∃ L : Nat → List Value, (∀ i, i < len → (L i).length = C ∧ ∃ n y, DataW.trod enc P w base (fun _ => true) held n e (L i) = some y) ∧
      (0 < len → ∃ b off, a = some (⟨b, off, none⟩ : Addr) ∧ b < w.heap.size ∧ ∀ i j u, i < len → (L i)[j]? = some u → w.cell? ⟨b, off + i * C + j, none⟩ = some u) := by
  rcases open_slice ht h with ⟨hcs, rfl⟩ | ⟨y, len, cap, m, n, D, Pl, hcs, hb, hl, hm, hmm, hx, hi⟩
  · simp at hcs
    exact ⟨none, 0, 0, hcs, Nat.le_refl _, Nat.zero_le _, .inl rfl, (fun _ => ⟨rfl, rfl⟩), fun _ => [], fun i hi => absurd hi (Nat.not_lt_zero i), fun h => absurd h (Nat.lt_irrefl 0)⟩
  · simp at hcs
    simp only [if_true] at hmm
    obtain rfl : cap = m := by omega
    have hall : ∀ i, ∃ l : List Value, i < len → l.length = C ∧ (∃ n y, DataW.trod enc P w base (fun _ => true) held n e l = some y) ∧ ∀ j, j < C → w.cell? (y.add (i * C + j)) = l[j]? := by
      intro i
      by_cases hil : i < len
      · have hh := hi i (by omega)
        rw [hC] at hh
        obtain ⟨cs', hc, ht'⟩ := hh
        obtain ⟨_, hcl, hat⟩ := World.cells?_some hc
        exact ⟨cs', fun _ => ⟨hcl, ⟨_, _, ht'⟩, fun j hj => by rw [← add_add]; exact hat j hj⟩⟩
      · exact ⟨[], fun h => absurd h hil⟩
    refine ⟨some y, len, cap, hcs, hl, hm, (.inr ⟨_, _, by rw [hx], by simp; omega⟩), (fun h => by cases h), fun i => (hall i).choose, fun i hil => ⟨((hall i).choose_spec hil).1, ((hall i).choose_spec hil).2.1⟩, fun hlen => ?_⟩
    obtain ⟨b, off, e1, hlt, hc⟩ := mk_at (size := C) (len := len) (f := fun i j => ((hall i).choose)[j]?.getD .nilIface) hlen h0 (fun i j hi' hj => by
      obtain ⟨g1, _, g3⟩ := (hall i).choose_spec hi'
      rw [g3 j hj]
      have : j < (hall i).choose.length := by omega
      rw [List.getElem?_eq_getElem this]
      rfl)
    refine ⟨b, off, e1, hlt, fun i j u hi' hu => ?_⟩
    have hjl := (List.getElem?_eq_some_iff.1 hu).1
    have := hc i j hi' (by rw [((hall i).choose_spec hi').1] at hjl; exact hjl)
    rw [Nat.add_assoc, this, hu]
    rfl
theorem int_in {x : Int} (h : (Lit.int .i64 x).wf = true) : in64 x := by
  have : -9223372036854775808 ≤ x ∧ x ≤ 9223372036854775807 := by simpa [Lit.wf, IntKind.min, IntKind.max, IntKind.signed, IntKind.bits] using h
  exact this
theorem len_ex {α : Type} {l : List α} {n : Nat} (h : l.length = n) : ∀ i, i < n → ∃ y, l[i]? = some y := fun i hi => ⟨_, List.getElem?_eq_getElem (by omega)⟩
/-- An operation's seven cells. -/
theorem op_trod {n : Nat} {c0 c1 c2 c3 c4 c5 c6 : Value} {x : DataW H × List MemPlace} (h : DataW.trod enc Tryd.prog w base (fun _ => true) held n 23 [c0, c1, c2, c3, c4, c5, c6] = some x) :
    ∃ o : Opn, #[c0, c1, c2, c3, c4, c5, c6] = o.cs ∧ in64 o.num := by
  have cI : Tryd.prog.cellsOf 3 = 1 := by kernel_rfl
  have cS : Tryd.prog.cellsOf 9 = 1 := by kernel_rfl
  obtain ⟨xs, m, _, _, _, hl, hg⟩ := DataW.trod_struct Tryd.underlying23 h
  have hl7 : xs.length = 7 := hl
  generalize hL : [c0, c1, c2, c3, c4, c5, c6] = L at hg
  have g0 : DataW.trod enc Tryd.prog w base (fun _ => true) held m 3 (L.drop 0 |>.take (Tryd.prog.cellsOf 3)) = xs[0]? := hg 0 _ rfl
  have g1 : DataW.trod enc Tryd.prog w base (fun _ => true) held m 3 (L.drop 1 |>.take (Tryd.prog.cellsOf 3)) = xs[1]? := hg 1 _ rfl
  have g2 : DataW.trod enc Tryd.prog w base (fun _ => true) held m 9 (L.drop 2 |>.take (Tryd.prog.cellsOf 9)) = xs[2]? := hg 2 _ rfl
  have g3 : DataW.trod enc Tryd.prog w base (fun _ => true) held m 9 (L.drop 3 |>.take (Tryd.prog.cellsOf 9)) = xs[3]? := hg 3 _ rfl
  have g4 : DataW.trod enc Tryd.prog w base (fun _ => true) held m 3 (L.drop 4 |>.take (Tryd.prog.cellsOf 3)) = xs[4]? := hg 4 _ rfl
  have g5 : DataW.trod enc Tryd.prog w base (fun _ => true) held m 3 (L.drop 5 |>.take (Tryd.prog.cellsOf 3)) = xs[5]? := hg 5 _ rfl
  have g6 : DataW.trod enc Tryd.prog w base (fun _ => true) held m 3 (L.drop 6 |>.take (Tryd.prog.cellsOf 3)) = xs[6]? := hg 6 _ rfl
  subst hL
  rw [cI] at g0 g1 g4 g5 g6
  rw [cS] at g2 g3
  obtain ⟨y0, e0⟩ := len_ex hl7 0 (by omega)
  obtain ⟨y1, e1⟩ := len_ex hl7 1 (by omega)
  obtain ⟨y2, e2⟩ := len_ex hl7 2 (by omega)
  obtain ⟨y3, e3⟩ := len_ex hl7 3 (by omega)
  obtain ⟨y4, e4⟩ := len_ex hl7 4 (by omega)
  obtain ⟨y5, e5⟩ := len_ex hl7 5 (by omega)
  obtain ⟨y6, e6⟩ := len_ex hl7 6 (by omega)
  obtain ⟨n0, hn0, _, z0⟩ := DataW.trod_int Tryd.underlying3 (g0.trans e0)
  obtain ⟨n1, hn1, _, z1⟩ := DataW.trod_int Tryd.underlying3 (g1.trans e1)
  obtain ⟨n4, hn4, _, z4⟩ := DataW.trod_int Tryd.underlying3 (g4.trans e4)
  obtain ⟨n5, hn5, _, z5⟩ := DataW.trod_int Tryd.underlying3 (g5.trans e5)
  obtain ⟨n6, hn6, _, z6⟩ := DataW.trod_int Tryd.underlying3 (g6.trans e6)
  obtain ⟨n2, hn2, _, z2⟩ := DataW.trod_string Tryd.underlying9 (g2.trans e2)
  obtain ⟨n3, hn3, _, z3⟩ := DataW.trod_string Tryd.underlying9 (g3.trans e3)
  simp at hn0 hn1 hn2 hn3 hn4 hn5 hn6
  subst hn0 hn1 hn2 hn3 hn4 hn5 hn6
  exact ⟨⟨n0, n1, n2, n3, n4, n5, n6⟩, rfl, int_in z4⟩
theorem read_op {r : Reach} {b0 : Nat} {d : DataW H} {p : List MemPlace} {v : Value}
    (hv : Value.okWide Tryd.prog w r b0 23 v) (h : DataW.Trod enc Tryd.prog w base (fun _ => true) held 23 v d p) : ∃ o : Opn, v = .agg o.cs := by
  obtain ⟨cs, rfl, hsz⟩ := okWide_struct Tryd.underlying23 hv
  obtain ⟨l⟩ := cs
  have h7 : Tryd.prog.cellsOf 23 = 7 := by kernel_rfl
  rw [h7] at hsz
  match l, hsz with
  | [c0, c1, c2, c3, c4, c5, c6], _ =>
    obtain ⟨fuel, hf⟩ := h
    obtain ⟨o, ho, _⟩ := op_trod hf
    exact ⟨o, congrArg Value.agg ho⟩
theorem blk_one {H : Type} (d : DataW H) : 1 ≤ Rows.uptoBulk d := by
  cases d with
  | lit l => cases l <;> simp [Rows.uptoBulk]
  | nil => simp [Rows.uptoBulk]
  | ptr d => simp [Rows.uptoBulk]
  | slice elems spare => simp [Rows.uptoBulk]
  | agg parts => simp [Rows.uptoBulk]
  | iface t d => simp [Rows.uptoBulk]
  | map entries => simp [Rows.uptoBulk]
  | held h => simp [Rows.uptoBulk]
theorem blk_length {H : Type} : ∀ l : List (DataW H), l.length ≤ Rows.uptoBulkAll l
  | [] => by simp [Rows.uptoBulkAll]
  | x :: r => by have := blk_one x; have := blk_length r; simp only [Rows.uptoBulkAll, List.length_cons]; omega
theorem blk_part {H : Type} {d : DataW H} : ∀ {l : List (DataW H)}, d ∈ l → Rows.uptoBulk d ≤ Rows.uptoBulkAll l
  | [], h => by cases h
  | x :: r, h => by
    simp only [Rows.uptoBulkAll]
    rcases List.mem_cons.1 h with e | e
    · subst e; omega
    · have := blk_part e; omega
/-- Texts that came in. -/
theorem texts_trod {n : Nat} {v : Value} {x : DataW H × List MemPlace} (h : DataW.trod enc Tryd.prog w base (fun _ => true) held n 24 [v] = some x) : ∃ l : List ByteArray, TxAt w w.heap.size v l ∧ l.length ≤ Rows.uptoBulk x.1 := by
  obtain ⟨a, len, cap, rfl, h1, h2, hz, hnil, Li, hL, hA⟩ := rows_trod (C := 1) Tryd.underlying24 (by kernel_rfl) (by omega) h
  have hs : ∀ i, ∃ s : ByteArray, i < len → Li i = [.string s] := by
    intro i
    by_cases hi : i < len
    · obtain ⟨hlen, m, y, ht⟩ := hL i hi
      match hq : Li i, hlen with
      | [u], _ =>
        rw [hq] at ht
        obtain ⟨s, hs, _⟩ := DataW.trod_string Tryd.underlying9 ht
        exact ⟨s, fun _ => by simpa using hs⟩
    · exact ⟨⟨#[]⟩, fun h => absurd h hi⟩
  refine ⟨(List.range len).map fun i => (hs i).choose, ⟨a, cap, by simp, (fun e => by simpa using hnil e), fun h0 => ?_⟩, ?_⟩
  · obtain ⟨b, off, e1, hlt, hc⟩ := hA (by simpa using h0)
    refine ⟨b, off, e1, hlt, fun i s hi => ?_⟩
    have hil : i < len := by have := (List.getElem?_eq_some_iff.1 hi).1; simpa using this
    have := hc i 0 (.string s) hil (by
      rw [(hs i).choose_spec hil]
      have h3 : ((List.range len).map fun i => (hs i).choose)[i]? = some ((hs i).choose) := by simp [hil]
      rw [h3] at hi
      injection hi with hi
      rw [hi]; rfl)
    simpa using this
  · simp only [List.length_map, List.length_range]
    rcases hz with rfl | ⟨es, sp, he, hcap⟩
    · omega
    · rw [he]
      have a1 := blk_length es
      have a2 := blk_length sp
      simp only [Rows.uptoBulk]
      omega
/-- What came in for PlanPure. -/
structure Pln where
  o : Opn
  nx : ByteArray
  kv : Value
  ks : List ByteArray
  err : Int
structure IsPln (w : World) (v : Value) (q : Pln) : Prop where
  val : v = .agg (plcs q.o q.nx q.kv q.err)
  keys : TxAt w w.heap.size q.kv q.ks
  num : in64 q.o.num
theorem read_planned {r : Reach} {b0 : Nat} {d : DataW H} {p : List MemPlace} {v : Value}
    (hv : Value.okWide Tryd.prog w r b0 26 v) (h : DataW.Trod enc Tryd.prog w base (fun _ => true) held 26 v d p) : ∃ q : Pln, IsPln w v q ∧ q.ks.length ≤ Rows.uptoBulk d := by
  obtain ⟨cs, rfl, hsz⟩ := okWide_struct Tryd.underlying26 hv
  obtain ⟨l⟩ := cs
  have h10 : Tryd.prog.cellsOf 26 = 10 := by kernel_rfl
  rw [h10] at hsz
  have cI : Tryd.prog.cellsOf 3 = 1 := by kernel_rfl
  have cS : Tryd.prog.cellsOf 9 = 1 := by kernel_rfl
  have cO : Tryd.prog.cellsOf 23 = 7 := by kernel_rfl
  have cK : Tryd.prog.cellsOf 24 = 1 := by kernel_rfl
  match l, hsz with
  | [c0, c1, c2, c3, c4, c5, c6, c7, c8, c9], _ =>
    obtain ⟨fuel, hf⟩ := h
    obtain ⟨xs, m, _, hxd, _, hl, hg⟩ := DataW.trod_struct Tryd.underlying26 hf
    have hl4 : xs.length = 4 := hl
    generalize hL : [c0, c1, c2, c3, c4, c5, c6, c7, c8, c9] = L at hg
    have g0 : DataW.trod enc Tryd.prog w base (fun _ => true) held m 23 (L.drop 0 |>.take (Tryd.prog.cellsOf 23)) = xs[0]? := hg 0 _ rfl
    have g1 : DataW.trod enc Tryd.prog w base (fun _ => true) held m 9 (L.drop 7 |>.take (Tryd.prog.cellsOf 9)) = xs[1]? := hg 1 _ rfl
    have g2 : DataW.trod enc Tryd.prog w base (fun _ => true) held m 24 (L.drop 8 |>.take (Tryd.prog.cellsOf 24)) = xs[2]? := hg 2 _ rfl
    have g3 : DataW.trod enc Tryd.prog w base (fun _ => true) held m 3 (L.drop 9 |>.take (Tryd.prog.cellsOf 3)) = xs[3]? := hg 3 _ rfl
    subst hL
    rw [cO] at g0
    rw [cS] at g1
    rw [cK] at g2
    rw [cI] at g3
    obtain ⟨y0, e0⟩ := len_ex hl4 0 (by omega)
    obtain ⟨y1, e1⟩ := len_ex hl4 1 (by omega)
    obtain ⟨y2, e2⟩ := len_ex hl4 2 (by omega)
    obtain ⟨y3, e3⟩ := len_ex hl4 3 (by omega)
    have f2 : DataW.trod enc Tryd.prog w base (fun _ => true) held m 24 [c8] = some y2 := g2.trans e2
    obtain ⟨o, ho, hnum⟩ := op_trod (g0.trans e0)
    obtain ⟨s1, hs1, _, z1⟩ := DataW.trod_string Tryd.underlying9 (g1.trans e1)
    obtain ⟨ks, hks, hlen⟩ := texts_trod f2
    obtain ⟨n3, hn3, _, z3⟩ := DataW.trod_int Tryd.underlying3 (g3.trans e3)
    simp at hs1 hn3
    subst hs1 hn3
    unfold Opn.cs at ho
    simp only [Array.mk.injEq, List.cons.injEq] at ho
    obtain ⟨r0, r1, r2, r3, r4, r5, r6, _⟩ := ho
    subst r0 r1 r2 r3 r4 r5 r6
    refine ⟨⟨o, s1, c8, ks, n3⟩, ⟨rfl, hks, hnum⟩, Nat.le_trans hlen ?_⟩
    have hd : d = .agg (xs.map (·.1)) := (Prod.mk.inj hxd).1
    rw [hd]
    simp only [Rows.uptoBulk]
    have hm : y2.1 ∈ xs.map (·.1) := List.mem_map.2 ⟨y2, List.mem_of_getElem? e2, rfl⟩
    have := blk_part hm
    omega
end
end Go.Proofs.YtokghbppdmlfkaaDoor
