/- The walk of NodeCells. -/
import Derived.Test.YtedoechjjcbeeaaNodPg
import Derived.Test.YtedoechjjcbeeaaNodWays
import Derived.Deep.RegionHeld3
set_option linter.unusedVariables false
set_option linter.unusedSimpArgs false
namespace Go.Proofs.Ytedoechjjcbeeaa
open Go.RowKit Go.BigFrame Go.ChangeShapes Go.WideShapes Go.ChangeAt Go.Deep

structure IsAsk (v : Value) (key val : ByteArray) (n : Int) (c : Ce) : Prop where
  is : v = .agg #[.string key, .string val, .int .i64 n, .int .i64 c.st, .string c.d]
  sk : key.size ≤ maxLen
  sv : val.size ≤ maxLen
  bn : -9223372036854775808 ≤ n ∧ n ≤ 9223372036854775807
  bc : -9223372036854775808 ≤ c.st ∧ c.st ≤ 9223372036854775807
  sc : c.d.size ≤ maxLen
/-- What was asked, as one. -/
structure Ak where
  key : ByteArray
  val : ByteArray
  n : Int
  c : Ce
section
variable {H : Type} {enc : TypeId × Value → H} {w : World} {base : Nat} {held : Bool}
theorem read_ask {r : Reach} {b0 : Nat} {d : DataW H} {p : List MemPlace} {v : Value}
    (hv : Value.okWide Try.prog w r b0 25 v) (h : DataW.Trod enc Try.prog w base (fun _ => true) held 25 v d p) : ∃ q : Ak, IsAsk v q.key q.val q.n q.c := by
  obtain ⟨cs, rfl, hsz⟩ := okWide_struct Try.underlying25 hv
  obtain ⟨l⟩ := cs
  have h5 : Try.prog.cellsOf 25 = 5 := by kernel_rfl
  rw [h5] at hsz
  match l, hsz with
  | [c0, c1, c2, c3, c4], _ =>
    obtain ⟨fuel, hf⟩ := h
    obtain ⟨xs, m, _, _, _, hlen, hg⟩ := DataW.trod_struct Try.underlying25 hf
    have cS : Try.prog.cellsOf 9 = 1 := by kernel_rfl
    have cI : Try.prog.cellsOf 3 = 1 := by kernel_rfl
    have cC : Try.prog.cellsOf 23 = 2 := by kernel_rfl
    have hl4 : xs.length = 4 := hlen
    have hx : ∀ i, i < xs.length → ∃ y, xs[i]? = some y := fun i hi => ⟨_, List.getElem?_eq_getElem hi⟩
    have g0 : DataW.trod enc Try.prog w base (fun _ => true) held m 9 ([c0, c1, c2, c3, c4].drop 0 |>.take (Try.prog.cellsOf 9)) = xs[0]? := hg 0 _ rfl
    have g1 : DataW.trod enc Try.prog w base (fun _ => true) held m 9 ([c0, c1, c2, c3, c4].drop 1 |>.take (Try.prog.cellsOf 9)) = xs[1]? := hg 1 _ rfl
    have g2 : DataW.trod enc Try.prog w base (fun _ => true) held m 3 ([c0, c1, c2, c3, c4].drop 2 |>.take (Try.prog.cellsOf 3)) = xs[2]? := hg 2 _ rfl
    have g3 : DataW.trod enc Try.prog w base (fun _ => true) held m 23 ([c0, c1, c2, c3, c4].drop 3 |>.take (Try.prog.cellsOf 23)) = xs[3]? := hg 3 _ rfl
    rw [cS] at g0 g1
    rw [cI] at g2
    rw [cC] at g3
    obtain ⟨y0, e0⟩ := hx 0 (by omega)
    obtain ⟨y1, e1⟩ := hx 1 (by omega)
    obtain ⟨y2, e2⟩ := hx 2 (by omega)
    obtain ⟨y3, e3⟩ := hx 3 (by omega)
    obtain ⟨s0, hs0, _, z0⟩ := DataW.trod_string Try.underlying9 (g0.trans e0)
    obtain ⟨s1, hs1, _, z1⟩ := DataW.trod_string Try.underlying9 (g1.trans e1)
    obtain ⟨n2, hn2, _, z2⟩ := DataW.trod_int Try.underlying3 (g2.trans e2)
    obtain ⟨c, h1, h2, h3, h4⟩ := cell_trod (a := c3) (b := c4) (g3.trans e3)
    have b2 : -9223372036854775808 ≤ n2 ∧ n2 ≤ 9223372036854775807 := by simpa [Lit.wf, IntKind.min, IntKind.max, IntKind.signed, IntKind.bits] using z2
    simp at hs0 hs1 hn2
    subst hs0 hs1 hn2 h1 h2
    exact ⟨⟨s0, s1, n2, c⟩, rfl, z0, z1, b2, h3, h4⟩
end
theorem five_cells {w : World} {g : Nat} {t : TypeId} {a b c d e : Value} (h : Bk w g t #[a, b, c, d, e]) :
    w.cell? ⟨g, 0, none⟩ = some a ∧ w.cell? ⟨g, 1, none⟩ = some b ∧ w.cell? ⟨g, 2, none⟩ = some c ∧ w.cell? ⟨g, 3, none⟩ = some d ∧ w.cell? ⟨g, 4, none⟩ = some e := ⟨h.cell 0, h.cell 1, h.cell 2, h.cell 3, h.cell 4⟩
set_option maxRecDepth 100000 in
set_option maxHeartbeats 2000000 in
theorem cells_core (key val : ByteArray) (n : Int) (c : Ce) (w : World) (hk : key.size ≤ maxLen) (hv : val.size ≤ maxLen) (hc : c.d.size ≤ maxLen) :
    Calls Try.prog 3 #[.agg #[.string key, .string val, .int .i64 n, .int .i64 c.st, .string c.d]] w fun e w' => e = .returned (.bool true) ∧ Below w.heap.size w w' := by
  have CA := Lib.hid awake_any
  have L1 := Lib.hid (fun w => leaf_any key val n w hk hv); have L2 := Lib.hid (fun w => rleaf_any key val n w hk hv)
  have I1 := Lib.hid (fun w => inner_any key n w hk); have I2 := Lib.hid (fun w => rinner_any key n w hk)
  have S1 := Lib.hid (fun w => key_any c w hc); have S2 := Lib.hid (fun w => says_any c w hc)
  have D1 := Lib.hid (fun w => child_any c w hc); have D2 := Lib.hid (fun w => rchild_any c w hc)
  generalize leafC key val n = lc at *
  generalize leafE key val n = le at *
  generalize innerC key n = ic at *
  generalize innerE key n = ie at *
  unfold Ce.v at *
  generalize c.key = ky at *
  generalize c.rst = rs at *
  generalize decide c.says = sy at *
  generalize c.child = ch at *
  obtain ⟨st, d⟩ := c
  dsimp only at *
  go_enter Try.func3, Try.ntmps3
  go_wp2_with fail
  have K0 := Lib.hid (Bk.new w 25 #[.string key, .string val, .int .i64 n, .int .i64 st, .string d])
  have B0 := Lib.hid ((Below.refl w.heap.size w).alloc (Nat.le_refl _) (.cells #[.string key, .string val, .int .i64 n, .int .i64 st, .string d] 25))
  have hz := World.size_alloc w (.cells #[.string key, .string val, .int .i64 n, .int .i64 st, .string d] 25)
  generalize w.alloc (.cells #[.string key, .string val, .int .i64 n, .int .i64 st, .string d] 25) = w1 at *
  have HZ := Lib.hid hz
  clear hz
  go_region_held3 (fun w' => w'.cell? ⟨w.heap.size, 0, none⟩ = some (.string key) ∧ w'.cell? ⟨w.heap.size, 1, none⟩ = some (.string val) ∧ w'.cell? ⟨w.heap.size, 2, none⟩ = some (.int .i64 n) ∧ w'.cell? ⟨w.heap.size, 3, none⟩ = some (.int .i64 st) ∧ w'.cell? ⟨w.heap.size, 4, none⟩ = some (.string d)) (first | exact five_cells K0.out | exact five_cells K0.out.drew | exact five_cells (K0.out.drew.alloc _) | exact five_cells (K0.out.alloc _).drew) (fail)
  go_wp2_with fail
  refine (CA.out _).mono ?_
  rintro e w2 ⟨rfl, hb2⟩
  have C2 := Lib.hid (show Bk w2 w1.heap.size 23 #[.int .i64 st, .string d] from by first | exact (Bk.new w1 _ _).drew.kept hb2 | exact (Bk.new w1.drew _ _).kept hb2)
  have B2 := Lib.hid (show Below w.heap.size w w2 from by first | exact below_then (B0.out.alloc B0.out.size _).drew hb2 (by have := B0.out.size; simp; omega) | exact below_then (B0.out.drew.alloc B0.out.size _) hb2 (by have := B0.out.size; simp; omega))
  clear hb2 CA K0 B0 HZ
  go_wp2_with fail
  refine (L1.out _).mono ?_
  rintro e w3 ⟨rfl, hb⟩
  have b' := below_then B2.out hb B2.out.size
  have N3_0 := Lib.hid ((C2.out.kept hb).alloc (.cells #[.int .i64 lc.st, .string lc.d] 23))
  have N3_1 := Lib.hid (Bk.new w3 23 #[.int .i64 lc.st, .string lc.d])
  have B3 := Lib.hid (b'.alloc b'.size (.cells #[.int .i64 lc.st, .string lc.d] 23))
  clear hb b' L1 C2 B2
  go_wp2_with fail
  refine (L2.out _).mono ?_
  rintro e w4 ⟨rfl, hb⟩
  have b' := below_then B3.out hb B3.out.size
  have N4_0 := Lib.hid ((N3_0.out.kept hb).alloc (.cells #[.int .i64 lc.st, .string lc.d] 23))
  have N4_1 := Lib.hid ((N3_1.out.kept hb).alloc (.cells #[.int .i64 lc.st, .string lc.d] 23))
  have N4_2 := Lib.hid (Bk.new w4 23 #[.int .i64 lc.st, .string lc.d])
  have B4 := Lib.hid (b'.alloc b'.size (.cells #[.int .i64 lc.st, .string lc.d] 23))
  clear hb b' L2 N3_0 N3_1 B3
  go_wp2_with fail
  refine (I1.out _).mono ?_
  rintro e w5 ⟨rfl, hb⟩
  have b' := below_then B4.out hb B4.out.size
  have N5_0 := Lib.hid ((N4_0.out.kept hb).alloc (.cells #[.int .i64 ic.st, .string ic.d] 23))
  have N5_1 := Lib.hid ((N4_1.out.kept hb).alloc (.cells #[.int .i64 ic.st, .string ic.d] 23))
  have N5_2 := Lib.hid ((N4_2.out.kept hb).alloc (.cells #[.int .i64 ic.st, .string ic.d] 23))
  have N5_3 := Lib.hid (Bk.new w5 23 #[.int .i64 ic.st, .string ic.d])
  have B5 := Lib.hid (b'.alloc b'.size (.cells #[.int .i64 ic.st, .string ic.d] 23))
  clear hb b' I1 N4_0 N4_1 N4_2 B4
  go_wp2_with fail
  refine (I2.out _).mono ?_
  rintro e w6 ⟨rfl, hb⟩
  have b' := below_then B5.out hb B5.out.size
  have N6_0 := Lib.hid ((N5_0.out.kept hb).alloc (.cells #[.int .i64 ic.st, .string ic.d] 23))
  have N6_1 := Lib.hid ((N5_1.out.kept hb).alloc (.cells #[.int .i64 ic.st, .string ic.d] 23))
  have N6_2 := Lib.hid ((N5_2.out.kept hb).alloc (.cells #[.int .i64 ic.st, .string ic.d] 23))
  have N6_3 := Lib.hid ((N5_3.out.kept hb).alloc (.cells #[.int .i64 ic.st, .string ic.d] 23))
  have N6_4 := Lib.hid (Bk.new w6 23 #[.int .i64 ic.st, .string ic.d])
  have B6 := Lib.hid (b'.alloc b'.size (.cells #[.int .i64 ic.st, .string ic.d] 23))
  clear hb b' I2 N5_0 N5_1 N5_2 N5_3 B5
  have y0 := N6_0.out.cell 0; have y1 := N6_0.out.cell 1
  simp only [List.getElem?_toArray, List.getElem?_cons_zero, List.getElem?_cons_succ] at y0 y1
  go_wp2_with fail
  refine (S1.out _).mono ?_
  rintro e w7 ⟨rfl, hb⟩
  have N7_0 := Lib.hid (N6_0.out.kept hb)
  have N7_1 := Lib.hid (N6_1.out.kept hb)
  have N7_2 := Lib.hid (N6_2.out.kept hb)
  have N7_3 := Lib.hid (N6_3.out.kept hb)
  have N7_4 := Lib.hid (N6_4.out.kept hb)
  have B7 := Lib.hid (below_then B6.out hb B6.out.size)
  clear hb y0 y1 S1 N6_0 N6_1 N6_2 N6_3 N6_4 B6
  have y0 := N7_0.out.cell 0; have y1 := N7_0.out.cell 1
  simp only [List.getElem?_toArray, List.getElem?_cons_zero, List.getElem?_cons_succ] at y0 y1
  go_wp2_with fail
  refine (S2.out _).mono ?_
  rintro e w8 ⟨rfl, hb⟩
  have N8_0 := Lib.hid (N7_0.out.kept hb)
  have N8_1 := Lib.hid (N7_1.out.kept hb)
  have N8_2 := Lib.hid (N7_2.out.kept hb)
  have N8_3 := Lib.hid (N7_3.out.kept hb)
  have N8_4 := Lib.hid (N7_4.out.kept hb)
  have B8 := Lib.hid (below_then B7.out hb B7.out.size)
  clear hb y0 y1 S2 N7_0 N7_1 N7_2 N7_3 N7_4 B7
  go_wp2_with fail
  have f0 := fun x : Kp w8 => x.cell (N8_0.out.cell 0); have h0 := fun x : Kp w8 => x.cell (N8_0.out.cell 1)
  have f1 := fun x : Kp w8 => x.cell (N8_1.out.cell 0); have h1 := fun x : Kp w8 => x.cell (N8_1.out.cell 1)
  have f2 := fun x : Kp w8 => x.cell (N8_2.out.cell 0); have h2 := fun x : Kp w8 => x.cell (N8_2.out.cell 1)
  have f3 := fun x : Kp w8 => x.cell (N8_3.out.cell 0); have h3 := fun x : Kp w8 => x.cell (N8_3.out.cell 1)
  have f4 := fun x : Kp w8 => x.cell (N8_4.out.cell 0); have h4 := fun x : Kp w8 => x.cell (N8_4.out.cell 1)
  have q1 := fun w => cell_eql lc lc w
  have q2 := fun w => cell_eql ic ic w
  rw [ceB_self] at q1 q2
  refine wp_region_kept (by kernel_rfl) (by kernel_rfl) ?_
  repeat (first
    | go_big_quiet_skip
    | (go_big_quiet_want; go_big_quiet_op; first | go_big_quiet_on | go_big_quiet_call (first | exact kp_call (D1.out _) | exact kp_call (D2.out _))))
  refine wpQuiet_nil ?_
  rintro _ ⟨x, rfl⟩
  have BE := Lib.hid (B8.out.trans (x.2.mono B8.out.size))
  clear f0 h0 f1 h1 f2 h2 f3 h3 f4 h4 q1 q2
  go_wp2
  go_ret
  exact ⟨rfl, BE.out⟩
theorem walk_NodeCells (v : Value) (q : Ak) (w : World) (h : IsAsk v q.key q.val q.n q.c) :
    Calls Try.prog 3 #[v] w fun e w' => e = .returned (.bool true) ∧ Below w.heap.size w w' := by
  rw [h.is]
  exact cells_core q.key q.val q.n q.c w h.sk h.sv h.sc
end Go.Proofs.Ytedoechjjcbeeaa
