/- Single operations of a region taken in hand; a line of All appended in a region that draws. -/
import Derived.Test.YtnpnpkaklamboaaDoorLkAllP
import Derived.Great.BuildSlice
import Derived.Deep.RegionHeldLaw
set_option linter.unusedVariables false
set_option linter.unusedSimpArgs false
namespace Go.Proofs.YtnpnpkaklamboaaDoor
open Go.RowKit

section
variable {ops : Array Oper} {rest : List Oper} {o : Oper} {a : Act} {w : World} {Q : Exit → Act → World → Prop}
set_option maxRecDepth 100000 in
theorem wpList_slice1h (hgd : o.guard = none) (y : Operand) (ho : o.op = .buildSlice 34 1 #[(0, y)]) (x : H5) (hy : a.eval y = .agg #[.int .i64 x.n.s, .string x.n.t, .int .i64 x.x, .int .i64 (x.m : Int), .int .i64 (x.w : Int)])
    (h : wpList Tryd.prog ops Q rest (a.put o.dst (.slice (some ⟨w.heap.size, 0, none⟩) 1 1)) (w.alloc (.cells #[.int .i64 x.n.s, .string x.n.t, .int .i64 x.x, .int .i64 (x.m : Int), .int .i64 (x.w : Int)] 39))) : wpList Tryd.prog ops Q (o :: rest) a w := by
  obtain ⟨I2, hI, hz, hsz⟩ : ∃ I, Tryd.prog.info? 39 = some I ∧ I.zero = some (.agg #[.int .i64 0, .string ⟨#[]⟩, .int .i64 0, .int .i64 0, .int .i64 0]) ∧ I.size = 5 := ⟨_, rfl, rfl, rfl⟩
  refine wpList_buildSlice hgd 34 39 1 #[(0, y)] ho _ I2 _ Tryd.underlying34 hI hz (by rw [hsz]; decide) (by rw [hsz]; decide) ?_ h
  rw [hsz]
  simp only [List.map_toArray, List.map_cons, List.map_nil, hy]
  kernel_rfl
set_option maxRecDepth 100000 in
theorem wpList_build_h (hgd : o.guard = none) (y1 y2 y3 y4 : Operand) (ho : o.op = .build 39 #[(0, y1), (1, y2), (2, y3), (3, y4)]) (x : H5) (h1 : a.eval y1 = .agg #[.int .i64 x.n.s, .string x.n.t]) (h2 : a.eval y2 = .int .i64 x.x) (h3 : a.eval y3 = .int .i64 (x.m : Int)) (h4 : a.eval y4 = .int .i64 (x.w : Int))
    (h : wpList Tryd.prog ops Q rest (a.put o.dst (.agg #[.int .i64 x.n.s, .string x.n.t, .int .i64 x.x, .int .i64 (x.m : Int), .int .i64 (x.w : Int)])) w) : wpList Tryd.prog ops Q (o :: rest) a w := by
  refine wpList_plain hgd fun _ hK => ?_
  unfold Oper.wp execOp
  have e : (Instr.build 39 #[(0, Value.agg #[.int .i64 x.n.s, .string x.n.t]), (1, .int .i64 x.x), (2, .int .i64 (x.m : Int)), (3, .int .i64 (x.w : Int))]).run Tryd.prog w = .ok (.agg #[.int .i64 x.n.s, .string x.n.t, .int .i64 x.x, .int .i64 (x.m : Int), .int .i64 (x.w : Int)]) w := by kernel_rfl
  simp only [ho, List.map_toArray, List.map_cons, List.map_nil, h1, h2, h3, h4, Sem.run_bind, Sem.run_pure, Result.andThen_ok, e]
  exact hK _ _ h
end
end Go.Proofs.YtnpnpkaklamboaaDoor
