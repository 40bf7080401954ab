/- Layer 12: calls that came in. -/
import Derived.Test.YtgafajbdmegfgaaPolAwake
import Derived.Test.YtgafajbdmegfgaaRead
import Derived.Deep.MidRow
set_option linter.unusedVariables false
set_option linter.unusedSimpArgs false
set_option maxRecDepth 100000
namespace Go.Proofs.Ytgafajbdmegfgaa
open Go.RowKit Go.ChangeShapes Go.WideShapes Go.ChangeAt Go.Deep

structure IsPage (v : Value) (p : Pg) : Prop where
  val : v = p.v
  bd : (-9223372036854775808 ≤ p.k ∧ p.k ≤ 9223372036854775807) ∧ (-9223372036854775808 ≤ p.l ∧ p.l ≤ 9223372036854775807) ∧ (-9223372036854775808 ≤ p.s ∧ p.s ≤ 9223372036854775807) ∧ (-9223372036854775808 ≤ p.n ∧ p.n ≤ 9223372036854775807)
  cells : ∀ i, i < 6 → (-9223372036854775808 ≤ (p.c i).st ∧ (p.c i).st ≤ 9223372036854775807) ∧ (p.c i).d.size ≤ maxLen
def in64 (x : Int) : Prop := -9223372036854775808 ≤ x ∧ x ≤ 9223372036854775807
/-- A call: its kind, the page's number, the page, the record. -/
structure Cp where
  k : Int
  id : Int
  p : Pg
  v : ByteArray
def Cp.cs (c : Cp) : Array Value := (.int .i64 c.k :: .int .i64 c.id :: (c.p.cs.toList ++ [.string c.v])).toArray
def Cp.zero : Cp := ⟨0, 0, Pg.zero, ⟨#[]⟩⟩
theorem cp_len (c : Cp) : c.cs.toList.length = 19 := rfl
structure CpOk (c : Cp) : Prop where
  id : in64 c.id
  k : in64 c.k
  len : c.v.size ≤ maxLen
  pg : IsPage c.p.v c.p
section
variable {ops : Array Oper} {rest : List Oper} {o : Oper} {a : Act} {w : World} {Q : Exit → Act → World → Prop}
theorem load_cp_off (hgd : o.guard = none) (x : Operand) (ho : o.op = .load 42 x) (g off : Nat) (i : Nat) (p : Cp) (hx : a.eval x = .pointer (some ⟨g, off + i * 19, none⟩)) (hr : w.rangeAt g (off + i * 19) p.cs.toList)
    (h : wpList Try.prog ops Q rest (a.put o.dst (.agg p.cs)) w) : wpList Try.prog ops Q (o :: rest) a w :=
  wpList_load_mid hgd 42 x ho g (off + i * 19) hx p.cs.toList _ hr Try.underlying42 rfl (by rw [cp_len]; kernel_rfl) (by simpa using h)
theorem store_cp_new (hgd : o.guard = none) (x y : Operand) (ho : o.op = .store 42 x y) (i : Cp)
    (hx : a.eval x = .pointer (some ⟨w.heap.size, 0, none⟩)) (hy : a.eval y = .agg i.cs) (h : wpList Try.prog ops Q rest (a.put o.dst undef) (w.alloc (.cells i.cs 42))) : wpList Try.prog ops Q (o :: rest) a (w.alloc (.cells Cp.zero.cs 42)) := by
  refine wpList_store_row hgd 42 x y ho w.heap.size i.cs hx hy 42 Cp.zero.cs (Bk.new _ _ _) (by rw [show i.cs.size = 19 from rfl]; kernel_rfl) rfl (by simp [Cp.cs, Pg.cs, Value.oneCell']) ?_
  rw [World.setRow_alloc_new]
  exact h
/-- The page of a call. -/
theorem load_cpp (hgd : o.guard = none) (x : Operand) (ho : o.op = .load 40 x) (b : Nat) (s : Cp) (hx : a.eval x = .pointer (some ⟨b, 2, none⟩)) (hb : Bk w b 42 s.cs)
    (h : wpList Try.prog ops Q rest (a.put o.dst (.agg s.p.cs)) w) : wpList Try.prog ops Q (o :: rest) a w :=
  wpList_load_mid hgd 40 x ho b 2 hx s.p.cs.toList _ (fun i v hv => by
    rw [hb.cell]
    have hi : i < 16 := (List.getElem?_eq_some_iff.1 hv).1
    have : s.cs[2 + i]? = s.p.cs.toList[i]? := by
      rw [← Array.getElem?_toList]
      show (Value.int .i64 s.k :: .int .i64 s.id :: (s.p.cs.toList ++ [.string s.v]))[2 + i]? = _
      rw [Nat.add_comm, List.getElem?_cons_succ, List.getElem?_cons_succ, List.getElem?_append_left (by show i < 16; exact hi)]
    rw [this]; exact hv) Try.underlying40 rfl (by rw [show s.p.cs.toList.length = 16 from rfl]; kernel_rfl) (by simpa using h)
end
theorem cp_cells {w : World} {b : Nat} {s : Cp} (h : Bk w b 42 s.cs) : w.cell? ⟨b, 0, none⟩ = some (.int .i64 s.k) ∧ w.cell? ⟨b, 1, none⟩ = some (.int .i64 s.id) ∧ w.cell? ⟨b, 18, none⟩ = some (.string s.v) :=
  ⟨h.cell 0, h.cell 1, h.cell 18⟩
/-- A slice of calls that lie below B. -/
def CpsAt (w : World) (B : Nat) (v : Value) (l : List Cp) : Prop :=
  ∃ a c, v = .slice a l.length c ∧ (0 < l.length → ∃ b off, a = some (⟨b, off, none⟩ : Addr) ∧ b < B ∧ ∀ i p, l[i]? = some p → w.rangeAt b (off + i * 19) p.cs.toList)
structure IsCps (w : World) (v : Value) (l : List Cp) : Prop where
  at_ : CpsAt w w.heap.size v l
  len : l.length ≤ maxLen
  bd : ∀ i ∈ l, CpOk i
theorem CpsAt.below {w w' : World} {B : Nat} {v : Value} {l : List Cp} (h : CpsAt w B v l) (hb : Below B w w') : CpsAt w' B v l := by
  obtain ⟨a, c, e, h⟩ := h
  refine ⟨a, c, e, fun hm => ?_⟩
  obtain ⟨b, off, e1, hlt, hc⟩ := h hm
  exact ⟨b, off, e1, hlt, fun i p hi j u hu => (hb.cell (p := ⟨b, off + i * 19 + j, none⟩) hlt).trans (hc i p hi j u hu)⟩
section
variable {H : Type} {enc : TypeId × Value → H} {w : World} {base : Nat} {held : Bool}
theorem cell_trod {n : Nat} {a b : Value} {x : DataW H × List MemPlace} (h : DataW.trod enc Try.prog w base (fun _ => true) held n 37 [a, b] = some x) :
    ∃ c : Ce, a = .int .i64 c.st ∧ b = .string c.d ∧ (-9223372036854775808 ≤ c.st ∧ c.st ≤ 9223372036854775807) ∧ c.d.size ≤ maxLen := by
  obtain ⟨xs, m, _, _, _, hlen, hg⟩ := DataW.trod_struct Try.underlying37 h
  have cI : Try.prog.cellsOf 3 = 1 := by kernel_rfl
  have cS : Try.prog.cellsOf 9 = 1 := by kernel_rfl
  have hl2 : xs.length = 2 := hlen
  have hx : ∀ i, i < xs.length → ∃ y, xs[i]? = some y := fun i hi => ⟨_, List.getElem?_eq_getElem hi⟩
  have g0 : DataW.trod enc Try.prog w base (fun _ => true) held m 3 ([a, b].drop 0 |>.take (Try.prog.cellsOf 3)) = xs[0]? := hg 0 _ rfl
  have g1 : DataW.trod enc Try.prog w base (fun _ => true) held m 9 ([a, b].drop 1 |>.take (Try.prog.cellsOf 9)) = xs[1]? := hg 1 _ rfl
  rw [cI] at g0
  rw [cS] at g1
  obtain ⟨y0, e0⟩ := hx 0 (by omega)
  obtain ⟨y1, e1⟩ := hx 1 (by omega)
  obtain ⟨n1, hn1, _, z1⟩ := DataW.trod_int Try.underlying3 (g0.trans e0)
  obtain ⟨s2, hs2, _, z2⟩ := DataW.trod_string Try.underlying9 (g1.trans e1)
  have b1 : -9223372036854775808 ≤ n1 ∧ n1 ≤ 9223372036854775807 := by simpa [Lit.wf, IntKind.min, IntKind.max, IntKind.signed, IntKind.bits] using z1
  exact ⟨⟨n1, s2⟩, by simpa using hn1, by simpa using hs2, b1, z2⟩
theorem page_trod {fuel : Nat} {c0 c1 c2 c3 c4 c5 c6 c7 c8 c9 c10 c11 c12 c13 c14 c15 : Value} {x : DataW H × List MemPlace} (hf : DataW.trod enc Try.prog w base (fun _ => true) held fuel 40 [c0, c1, c2, c3, c4, c5, c6, c7, c8, c9, c10, c11, c12, c13, c14, c15] = some x) : ∃ q : Pg, IsPage (.agg #[c0, c1, c2, c3, c4, c5, c6, c7, c8, c9, c10, c11, c12, c13, c14, c15]) q := by
  have cI : Try.prog.cellsOf 3 = 1 := by kernel_rfl
  have cC : Try.prog.cellsOf 37 = 2 := by kernel_rfl
  have cA : Try.prog.cellsOf 38 = 12 := by kernel_rfl
  obtain ⟨xs, n, _, hxd, hpl, hlen, hg⟩ := DataW.trod_struct Try.underlying40 hf
  have hx : ∀ i, i < xs.length → ∃ y, xs[i]? = some y := fun i hi => ⟨_, List.getElem?_eq_getElem hi⟩
  have hl5 : xs.length = 5 := hlen
  generalize hL : [c0, c1, c2, c3, c4, c5, c6, c7, c8, c9, c10, c11, c12, c13, c14, c15] = L at hg
  have g0 : DataW.trod enc Try.prog w base (fun _ => true) held n 3 (L.drop 0 |>.take (Try.prog.cellsOf 3)) = xs[0]? := hg 0 _ rfl
  have g1 : DataW.trod enc Try.prog w base (fun _ => true) held n 3 (L.drop 1 |>.take (Try.prog.cellsOf 3)) = xs[1]? := hg 1 _ rfl
  have g2 : DataW.trod enc Try.prog w base (fun _ => true) held n 3 (L.drop 2 |>.take (Try.prog.cellsOf 3)) = xs[2]? := hg 2 _ rfl
  have g3 : DataW.trod enc Try.prog w base (fun _ => true) held n 3 (L.drop 3 |>.take (Try.prog.cellsOf 3)) = xs[3]? := hg 3 _ rfl
  have g4 : DataW.trod enc Try.prog w base (fun _ => true) held n 38 (L.drop 4 |>.take (Try.prog.cellsOf 38)) = xs[4]? := hg 4 _ rfl
  subst hL
  rw [cI] at g0 g1 g2 g3
  rw [cA] at g4
  obtain ⟨y0, e0⟩ := hx 0 (by omega)
  obtain ⟨y1, e1⟩ := hx 1 (by omega)
  obtain ⟨y2, e2⟩ := hx 2 (by omega)
  obtain ⟨y3, e3⟩ := hx 3 (by omega)
  obtain ⟨y4, e4⟩ := hx 4 (by omega)
  obtain ⟨n0, hn0, _, z0⟩ := DataW.trod_int Try.underlying3 (g0.trans e0)
  obtain ⟨n1, hn1, _, z1⟩ := DataW.trod_int Try.underlying3 (g1.trans e1)
  obtain ⟨n2, hn2, _, z2⟩ := DataW.trod_int Try.underlying3 (g2.trans e2)
  obtain ⟨n3, hn3, _, z3⟩ := DataW.trod_int Try.underlying3 (g3.trans e3)
  obtain ⟨ys, m, _, _, _, hyl, hy⟩ := DataW.trod_array Try.underlying38 (g4.trans e4)
  rw [cC] at hy
  have hyx : ∀ i, i < 6 → ∃ y, ys[i]? = some y := fun i hi => ⟨_, List.getElem?_eq_getElem (by omega)⟩
  obtain ⟨u0, f0⟩ := hyx 0 (by omega)
  obtain ⟨u1, f1⟩ := hyx 1 (by omega)
  obtain ⟨u2, f2⟩ := hyx 2 (by omega)
  obtain ⟨u3, f3⟩ := hyx 3 (by omega)
  obtain ⟨u4, f4⟩ := hyx 4 (by omega)
  obtain ⟨u5, f5⟩ := hyx 5 (by omega)
  obtain ⟨k0, a0, b0, m0, s0⟩ := cell_trod (a := c4) (b := c5) ((hy 0 (by omega)).trans f0)
  obtain ⟨k1, a1, b1, m1, s1⟩ := cell_trod (a := c6) (b := c7) ((hy 1 (by omega)).trans f1)
  obtain ⟨k2, a2, b2, m2, s2⟩ := cell_trod (a := c8) (b := c9) ((hy 2 (by omega)).trans f2)
  obtain ⟨k3, a3, b3, m3, s3⟩ := cell_trod (a := c10) (b := c11) ((hy 3 (by omega)).trans f3)
  obtain ⟨k4, a4, b4, m4, s4⟩ := cell_trod (a := c12) (b := c13) ((hy 4 (by omega)).trans f4)
  obtain ⟨k5, a5, b5, m5, s5⟩ := cell_trod (a := c14) (b := c15) ((hy 5 (by omega)).trans f5)
  have hi : ∀ {x : Int}, (Lit.int .i64 x).wf = true → -9223372036854775808 ≤ x ∧ x ≤ 9223372036854775807 := fun h => by simpa [Lit.wf, IntKind.min, IntKind.max, IntKind.signed, IntKind.bits] using h
  simp at hn0 hn1 hn2 hn3
  subst hn0 hn1 hn2 hn3 a0 b0 a1 b1 a2 b2 a3 b3 a4 b4 a5 b5
  refine ⟨⟨n0, n1, n2, n3, fun i => if i = 0 then k0 else if i = 1 then k1 else if i = 2 then k2 else if i = 3 then k3 else if i = 4 then k4 else k5⟩, rfl, ⟨hi z0, hi z1, hi z2, hi z3⟩, fun i hi6 => ?_⟩
  rcases six hi6 with rfl | rfl | rfl | rfl | rfl | rfl
  · exact ⟨m0, s0⟩
  · exact ⟨m1, s1⟩
  · exact ⟨m2, s2⟩
  · exact ⟨m3, s3⟩
  · exact ⟨m4, s4⟩
  · exact ⟨m5, s5⟩

/-- A slice whose elements have C cells each. -/
theorem rows_trod {P : Program} {t e : TypeId} {C : Nat} {fuel : Nat} {v : Value} {x : DataW H × List MemPlace} (ht : P.underlying t = some (.slice e)) (hC : P.cellsOf e = C) (h0 : 0 < C)
    (h : DataW.trod enc P w base (fun _ => true) held fuel t [v] = some x) :
    ∃ a len cap, v = .slice a len cap ∧ len ≤ cap ∧ cap ≤ maxLen ∧ SzOf x.1 cap ∧ (a = none → len = 0 ∧ cap = 0) ∧ ∃ L : Nat → List Value, (∀ i, i < len → (L i).length = C ∧ ∃ n y, DataW.trod enc P w base (fun _ => true) held n e (L i) = some y) ∧
      (0 < len → ∃ b off, a = some (⟨b, off, none⟩ : Addr) ∧ b < w.heap.size ∧ ∀ i j u, i < len → (L i)[j]? = some u → w.cell? ⟨b, off + i * C + j, none⟩ = some u) := by
  rcases open_slice ht h with ⟨hcs, rfl⟩ | ⟨y, len, cap, m, n, D, Pl, hcs, hb, hl, hm, hmm, hx, hi⟩
  · simp at hcs
    exact ⟨none, 0, 0, hcs, Nat.le_refl _, Nat.zero_le _, .inl rfl, (fun _ => ⟨rfl, rfl⟩), fun _ => [], fun i hi => absurd hi (Nat.not_lt_zero i), fun h => absurd h (Nat.lt_irrefl 0)⟩
  · simp at hcs
    simp only [if_true] at hmm
    obtain rfl : cap = m := by omega
    have hall : ∀ i, ∃ l : List Value, i < len → l.length = C ∧ (∃ n y, DataW.trod enc P w base (fun _ => true) held n e l = some y) ∧ ∀ j, j < C → w.cell? (y.add (i * C + j)) = l[j]? := by
      intro i
      by_cases hil : i < len
      · have hh := hi i (by omega)
        rw [hC] at hh
        obtain ⟨cs', hc, ht'⟩ := hh
        obtain ⟨_, hcl, hat⟩ := World.cells?_some hc
        exact ⟨cs', fun _ => ⟨hcl, ⟨_, _, ht'⟩, fun j hj => by rw [← add_add]; exact hat j hj⟩⟩
      · exact ⟨[], fun h => absurd h hil⟩
    refine ⟨some y, len, cap, hcs, hl, hm, (.inr ⟨_, _, by rw [hx], by simp; omega⟩), (fun h => by cases h), fun i => (hall i).choose, fun i hil => ⟨((hall i).choose_spec hil).1, ((hall i).choose_spec hil).2.1⟩, fun hlen => ?_⟩
    obtain ⟨b, off, e1, hlt, hc⟩ := mk_at (size := C) (len := len) (f := fun i j => ((hall i).choose)[j]?.getD .nilIface) hlen h0 (fun i j hi' hj => by
      obtain ⟨g1, _, g3⟩ := (hall i).choose_spec hi'
      rw [g3 j hj]
      have : j < (hall i).choose.length := by omega
      rw [List.getElem?_eq_getElem this]
      rfl)
    refine ⟨b, off, e1, hlt, fun i j u hi' hu => ?_⟩
    have hjl := (List.getElem?_eq_some_iff.1 hu).1
    have := hc i j hi' (by rw [((hall i).choose_spec hi').1] at hjl; exact hjl)
    rw [Nat.add_assoc, this, hu]
    rfl
theorem int_in {x : Int} (h : (Lit.int .i64 x).wf = true) : in64 x := by
  have : -9223372036854775808 ≤ x ∧ x ≤ 9223372036854775807 := by simpa [Lit.wf, IntKind.min, IntKind.max, IntKind.signed, IntKind.bits] using h
  exact this
theorem len_ex {α : Type} {l : List α} {n : Nat} (h : l.length = n) : ∀ i, i < n → ∃ y, l[i]? = some y := fun i hi => ⟨_, List.getElem?_eq_getElem (by omega)⟩
set_option maxRecDepth 100000 in
theorem callp_trod {n : Nat} {l : List Value} {x : DataW H × List MemPlace} (hlen : l.length = 19) (h : DataW.trod enc Try.prog w base (fun _ => true) held n 42 l = some x) :
    ∃ m : Cp, l = m.cs.toList ∧ CpOk m := by
  have cI : Try.prog.cellsOf 3 = 1 := by kernel_rfl
  have cS : Try.prog.cellsOf 9 = 1 := by kernel_rfl
  have cP : Try.prog.cellsOf 40 = 16 := by kernel_rfl
  obtain ⟨xs, m, _, _, _, hl, hg⟩ := DataW.trod_struct Try.underlying42 h
  match l, hlen with
  | [d0, d1, c0, c1, c2, c3, c4, c5, c6, c7, c8, c9, c10, c11, c12, c13, c14, c15, d2], _ =>
    have hl2 : xs.length = 4 := hl
    generalize hL : [d0, d1, c0, c1, c2, c3, c4, c5, c6, c7, c8, c9, c10, c11, c12, c13, c14, c15, d2] = L at hg
    have g0 : DataW.trod enc Try.prog w base (fun _ => true) held m 3 (L.drop 0 |>.take (Try.prog.cellsOf 3)) = xs[0]? := hg 0 _ rfl
    have g1 : DataW.trod enc Try.prog w base (fun _ => true) held m 3 (L.drop 1 |>.take (Try.prog.cellsOf 3)) = xs[1]? := hg 1 _ rfl
    have g2 : DataW.trod enc Try.prog w base (fun _ => true) held m 40 (L.drop 2 |>.take (Try.prog.cellsOf 40)) = xs[2]? := hg 2 _ rfl
    have g3 : DataW.trod enc Try.prog w base (fun _ => true) held m 9 (L.drop 18 |>.take (Try.prog.cellsOf 9)) = xs[3]? := hg 3 _ rfl
    subst hL
    rw [cI] at g0 g1
    rw [cS] at g3
    rw [cP] at g2
    obtain ⟨y0, e0⟩ := len_ex hl2 0 (by omega)
    obtain ⟨y1, e1⟩ := len_ex hl2 1 (by omega)
    obtain ⟨y2, e2⟩ := len_ex hl2 2 (by omega)
    obtain ⟨y3, e3⟩ := len_ex hl2 3 (by omega)
    obtain ⟨n0, hn0, _, z0⟩ := DataW.trod_int Try.underlying3 (g0.trans e0)
    obtain ⟨n1, hn1, _, z1⟩ := DataW.trod_int Try.underlying3 (g1.trans e1)
    obtain ⟨q, hq⟩ := page_trod (g2.trans e2)
    obtain ⟨s3, hs3, _, z3⟩ := DataW.trod_string Try.underlying9 (g3.trans e3)
    have hval := hq.val
    have hq2 : IsPage q.v q := by rw [hval] at hq; exact hq
    unfold Pg.v Pg.cs at hval
    simp only [Value.agg.injEq, Array.mk.injEq, List.cons.injEq] at hval
    obtain ⟨r0, r1, r2, r3, r4, r5, r6, r7, r8, r9, r10, r11, r12, r13, r14, r15, _⟩ := hval
    simp at hn0 hn1 hs3
    subst hn0 hn1 hs3 r0 r1 r2 r3 r4 r5 r6 r7 r8 r9 r10 r11 r12 r13 r14 r15
    exact ⟨⟨n0, n1, q, s3⟩, rfl, int_in z1, int_in z0, z3, hq2⟩
theorem read_cps {r : Reach} {b0 : Nat} {d : DataW H} {p : List MemPlace} {v : Value}
    (hv : Value.okWide Try.prog w r b0 22 v) (h : DataW.Trod enc Try.prog w base (fun _ => true) held 22 v d p) : ∃ l : List Cp, IsCps w v l := by
  obtain ⟨fuel, hf⟩ := h
  obtain ⟨a0, len0, cap0, rfl⟩ := okWide_slice Try.underlying22 hv
  have hf' : DataW.trod enc Try.prog w base (fun _ => true) held fuel 22 [.slice a0 len0 cap0] = some (d, p) := hf
  obtain ⟨a, len, cap, hve, h1, h2, _, _, L, hL, hat⟩ := rows_trod (C := 19) Try.underlying22 (by kernel_rfl) (by omega) hf'
  rw [hve]
  have him : ∀ i, ∃ mm : Cp, i < len → L i = mm.cs.toList ∧ CpOk mm := by
    intro i
    by_cases hi : i < len
    · obtain ⟨hlen, n, y, ht⟩ := hL i hi
      obtain ⟨mm, h1⟩ := callp_trod hlen ht
      exact ⟨mm, fun _ => h1⟩
    · exact ⟨Cp.zero, fun h => absurd h hi⟩
  have hll : ((List.range len).map fun i => (him i).choose).length = len := by simp
  refine ⟨(List.range len).map fun i => (him i).choose, ⟨a, cap, by rw [hll], fun h0 => ?_⟩, by rw [hll]; omega, fun i hi => ?_⟩
  · rw [hll] at h0
    obtain ⟨b, off, e1, hlt, hc⟩ := hat h0
    refine ⟨b, off, e1, hlt, fun i p hi j u hu => ?_⟩
    have hil : i < len := by have := (List.getElem?_eq_some_iff.1 hi).1; rwa [hll] at this
    rw [List.getElem?_map, List.getElem?_range hil] at hi
    simp at hi
    subst hi
    exact hc i j u hil (by rw [((him i).choose_spec hil).1]; exact hu)
  · obtain ⟨k, hk, rfl⟩ := List.mem_map.1 hi
    exact ((him k).choose_spec (List.mem_range.1 hk)).2
end
end Go.Proofs.Ytgafajbdmegfgaa
