/- What PlanAbove takes. -/
import Derived.Test.YtokghbppdmlfkaaDoorPlnAbv
import Derived.Test.YtokghbppdmlfkaaDoorPlnRead
set_option linter.unusedVariables false
set_option linter.unusedSimpArgs false
namespace Go.Proofs.YtokghbppdmlfkaaDoor
open Go.RowKit Go.ChangeShapes Go.WideShapes Go.ChangeAt Go.Deep
section
variable {H : Type} {enc : TypeId × Value → H} {w : World} {base : Nat} {held : Bool}
theorem read_op64 {r : Reach} {b0 : Nat} {d : DataW H} {p : List MemPlace} {v : Value}
    (hv : Value.okWide Tryd.prog w r b0 23 v) (h : DataW.Trod enc Tryd.prog w base (fun _ => true) held 23 v d p) : ∃ o : Opn, v = .agg o.cs ∧ in64 o.num := by
  obtain ⟨cs, rfl, hsz⟩ := okWide_struct Tryd.underlying23 hv
  obtain ⟨l⟩ := cs
  have h7 : Tryd.prog.cellsOf 23 = 7 := by kernel_rfl
  rw [h7] at hsz
  match l, hsz with
  | [c0, c1, c2, c3, c4, c5, c6], _ =>
    obtain ⟨fuel, hf⟩ := h
    obtain ⟨o, ho, hn⟩ := op_trod hf
    exact ⟨o, congrArg Value.agg ho, hn⟩
theorem read_texts {r : Reach} {b0 : Nat} {d : DataW H} {p : List MemPlace} {v : Value}
    (hv : Value.okWide Tryd.prog w r b0 24 v) (h : DataW.Trod enc Tryd.prog w base (fun _ => true) held 24 v d p) : ∃ l : List ByteArray, (TxAt w w.heap.size v l ∧ l.length ≤ Rows.uptoBulk d) ∧ True := by
  obtain ⟨a, len, cap, rfl⟩ := okWide_slice Tryd.underlying24 hv
  obtain ⟨fuel, hf⟩ := h
  exact ⟨_, texts_trod hf |>.choose_spec, trivial⟩
end
theorem tab_PlanAbove (W : World) (h : W.cell? ⟨0, 0, none⟩ = some (.int .i64 0) ∧ W.cell? ⟨0, 1, none⟩ = some (.int .i64 1) ∧ W.cell? ⟨0, 2, none⟩ = some (.int .i64 3) ∧ W.cell? ⟨0, 3, none⟩ = some (.int .i64 5) ∧ W.cell? ⟨0, 4, none⟩ = some (.int .i64 7) ∧ W.cell? ⟨0, 5, none⟩ = some (.int .i64 13) ∧ W.cell? ⟨0, 6, none⟩ = some (.int .i64 31)) : Tab W := tab_PlanPure W h
theorem PlanAbove_bound {H : Type} {d0 d1 d2 : DataW H} (hk : Rows.uptoSmall H [d0, d1, d2] = true) : Rows.uptoBulk d2 ≤ 1048576 := by
  have h := of_decide_eq_true hk
  simp only [Rows.uptoBulkAll] at h
  omega
theorem walk_PlanAbove {H : Type} {d : DataW H} (v : Value) (o : Opn) (s : ByteArray) (v' : Value) (ks : List ByteArray) (w : World) (hT : Tab w) (h : v = .agg o.cs ∧ in64 o.num) {hs : Prop} (hw : hs) (h' : TxAt w w.heap.size v' ks ∧ ks.length ≤ Rows.uptoBulk d) (hb : Rows.uptoBulk d ≤ 1048576) :
    Calls Tryd.prog 4 #[v, .string s, v'] w fun e w' => e = .returned (.bool true) ∧ Below w.heap.size w w' := by
  rw [h.1]
  exact above_core o s v' ks w hT h'.1 (by have := h'.2; omega) h.2.1 h.2.2
end Go.Proofs.YtokghbppdmlfkaaDoor
