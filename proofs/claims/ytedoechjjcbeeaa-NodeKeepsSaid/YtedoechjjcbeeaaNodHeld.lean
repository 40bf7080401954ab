/- Single operations of a region taken in hand. -/
import Derived.Test.YtedoechjjcbeeaaNodRPut
import Derived.Test.YtedoechjjcbeeaaNodSplit2
import Derived.Great.BuildSlice
set_option linter.unusedVariables false
set_option linter.unusedSimpArgs false
namespace Go.Proofs.Ytedoechjjcbeeaa
open Go.RowKit

section
variable {P : Program} {ops : Array Oper} {Q : Exit → Act → World → Prop} {K : Act → World → Prop} {i : Nat} {o : Oper} {a : Act} {w : World}
theorem held_run (hi : ops[i]? = some o) (hw : Region.wanted o (yielded ops a.tmps) = true) (d : Nat) (hd : o.dst = some d) (v : Value) (w' : World) (hr : (execOp a.eval o).run P w = .ok (.value v) w') (h : K (a.put (some d) v) w') : wpOp P ops Q i K a w := by
  unfold wpOp
  simp only [hi, hw, if_true]
  refine .inl ?_
  unfold Oper.wp
  rw [hr]
  simp only [Oper.upon, hd]
  exact h
theorem held_wp (hi : ops[i]? = some o) (hw : Region.wanted o (yielded ops a.tmps) = true) (h : o.wp P a w K Q) : wpOp P ops Q i K a w := by
  unfold wpOp
  simp only [hi, hw, if_true]
  exact .inl h
theorem held_call (hi : ops[i]? = some o) (hw : Region.wanted o (yielded ops a.tmps) = true) (d : Nat) (hd : o.dst = some d) (f : FuncId) (args : Array Value) (hr : (execOp a.eval o).run P w = .ok (.enter f args) w)
    (h : Calls P f args w fun e w' => ∃ v, e = .returned v ∧ K (a.put (some d) v) w') : wpOp P ops Q i K a w := by
  refine held_wp hi hw ?_
  unfold Oper.wp
  rw [hr]
  simp only [Oper.upon]
  refine h.mono fun e w' ⟨v, he, hk⟩ => ?_
  subst he
  simp only [hd]
  exact hk
theorem held_ready {md : Region.Mode} {S : World → Prop} {fuel : Nat} {listed : Array Bool} (i : Nat) (hr : Region.ready md ops listed = [i])
    (h : wpOp P ops Q i (fun a' w' => S w' ∧ wpAnyH P md ops Q S fuel (listed.setIfInBounds i true) a' w') a w) : wpAnyH P md ops Q S (fuel + 1) listed a w :=
  wpAnyH_all hr (by simp) fun j hj => by
    obtain rfl : j = i := by simpa using hj
    exact h
end
theorem build_zero {ops : Array Oper} {S : World → Prop} {o : Oper} {a : Act} (ho : o.op = .build 23 #[]) (hw : Region.wanted o (yielded ops a.tmps) = true) : YieldsIf Try.prog ops S o (.agg #[.int .i64 0, .string ⟨#[]⟩]) a := by
  refine .inl ⟨hw, fun w h => ?_⟩
  unfold execOp
  simp only [ho]
  kernel_rfl
theorem held_slice1 {ops : Array Oper} {Q : Exit → Act → World → Prop} {K : Act → World → Prop} {i : Nat} {o : Oper} {a : Act} {w : World} (hi : ops[i]? = some o) (hw : Region.wanted o (yielded ops a.tmps) = true) (d : Nat) (hd : o.dst = some d) (y : Operand) (ho : o.op = .buildSlice 78 1 #[(0, y)]) (u v : Value) (hy : a.eval y = .agg #[u, v])
    (h : K (a.put (some d) (.slice (some ⟨w.heap.size, 0, none⟩) 1 1)) (w.alloc (.cells #[u, v] 23))) : wpOp Try.prog ops Q i K a w := by
  obtain ⟨i0, hi0, hz0, hz1, hz2⟩ := info_parts Try.infoCell
  refine held_wp hi hw (wp_buildSlice 78 23 1 #[(0, y)] ho #[u, v] i0 _ Try.underlying78 hi0 hz0 (by rw [hz1]; decide) (by rw [hz1]; decide) ?_ (by rw [hd]; exact h))
  rw [hz1]
  simp only [List.map_toArray, List.map_cons, List.map_nil, hy]
  kernel_rfl
theorem CRow.drew {w : World} {B n cap : Nat} {a : Option Addr} {c : Nat → Ce} (h : CRow w B a n cap c) : CRow w.drew B a n cap c := h.of_block fun _ _ => rfl
theorem held_append {ops : Array Oper} {Q : Exit → Act → World → Prop} {K : Act → World → Prop} {i : Nat} {o : Oper} {a : Act} {w : World} (hi : ops[i]? = some o) (hw : Region.wanted o (yielded ops a.tmps) = true) (d' : Nat) (hd : o.dst = some d') (x y : Operand)
    (ho : o.op = .call { callee := .builtin .append, args := #[x, y], argTypes := #[78, 78] })
    (B : Nat) (la : Option Addr) (n cap : Nat) (c d : Nat → Ce) (s : Option Addr) (m sc : Nat) (hx : a.eval x = .slice la n cap) (hy : a.eval y = .slice s m sc) (hr : CRow w B la n cap c) (hB : B ≤ w.heap.size) (hnm : n + m ≤ 12)
    (hs : 0 < m → ∃ g off, s = some ⟨g, off, none⟩ ∧ ∀ j, j < m → w.cell? ⟨g, off + j * 2, none⟩ = some (.int .i64 (d j).st) ∧ w.cell? ⟨g, off + j * 2 + 1, none⟩ = some (.string (d j).d))
    (h : ∀ a' cap' w', CRow w' B a' (n + m) cap' (joinC c n d) → w.grownBy w' (Value.slice la n cap).ownBlock → K (a.put (some d') (.slice a' (n + m) cap')) w') : wpOp Try.prog ops Q i K a w :=
  held_wp hi hw (wp_append_cells x y ho B la n cap c d s m sc hx hy hr hB hnm hs fun a' cap' w' h1 h2 _ => by rw [hd]; exact h a' cap' w' h1 h2)
end Go.Proofs.Ytedoechjjcbeeaa
