/- The walks of logrec.isUndo, undoBytes. -/
import Derived.Test.YtggabnmfjooejaaRecWalk
import Derived.Test.YtggabnmfjooejaaKept
import Derived.BigRegion
import Derived.BigQuiet
import Derived.Deep.QuietTactic
set_option linter.unusedVariables false
set_option linter.unusedSimpArgs false
namespace Go.Proofs.Ytggabnmfjooejaa
open Go.RowKit Go.BigFrame

theorem load_str (g off : Nat) (v : Value) (w : World) (h : w.cell? ⟨g, off, none⟩ = some v) : (loadVar 9 ⟨g, off, none⟩).run Try.prog w = .ok v w := by
  simp [loadVar, run_underlying Try.underlying9, h]
theorem load_int (g off : Nat) (v : Value) (w : World) (h : w.cell? ⟨g, off, none⟩ = some v) : (loadVar 3 ⟨g, off, none⟩).run Try.prog w = .ok v w := by
  simp [loadVar, run_underlying Try.underlying3, h]
theorem kp_run {v : World} {o : Oper} {a : Act} {K : Act → Prop} (u : Value) (hr : ∀ x : Kp v, (execOp a.eval o).run Try.prog x.1 = .ok (.value u) x.1) (h : K (a.put o.dst u)) : o.quiet Try.prog a (fun w' => ∃ x : Kp v, w' = x.1) K :=
  ⟨u, fun w ⟨x, hx⟩ => by subst hx; unfold Oper.quietAt; rw [hr x]; exact ⟨rfl, rfl⟩, h⟩
theorem q_int {v : World} {o : Oper} {a : Act} {K : Act → Prop} (y : Operand) (ho : o.op = .load 3 y) (g off : Nat) (s : Int) (hx : a.eval y = .pointer (some ⟨g, off, none⟩))
    (h0 : v.cell? ⟨g, off, none⟩ = some (.int .i64 s)) (h : K (a.put o.dst (.int .i64 s))) : o.quiet Try.prog a (fun w' => ∃ x : Kp v, w' = x.1) K := by
  refine kp_run _ (fun x => ?_) h
  unfold execOp
  simp only [ho, hx, Instr.loadAt, Instr.sureAddr, Sem.run_bind, Sem.run_pure, Result.andThen_ok, load_int g off _ x.1 (x.cell h0)]
theorem q_str {v : World} {o : Oper} {a : Act} {K : Act → Prop} (y : Operand) (ho : o.op = .load 9 y) (g off : Nat) (s : ByteArray) (hx : a.eval y = .pointer (some ⟨g, off, none⟩))
    (h0 : v.cell? ⟨g, off, none⟩ = some (.string s)) (h : K (a.put o.dst (.string s))) : o.quiet Try.prog a (fun w' => ∃ x : Kp v, w' = x.1) K := by
  refine kp_run _ (fun x => ?_) h
  unfold execOp
  simp only [ho, hx, Instr.loadAt, Instr.sureAddr, Sem.run_bind, Sem.run_pure, Result.andThen_ok, load_str g off _ x.1 (x.cell h0)]
theorem un_cell {w : World} {g : Nat} {u : Un} (h : Bk w g 25 u.cs) : w.cell? ⟨g, 0, none⟩ = some (.int .i64 u.k) ∧ w.cell? ⟨g, 1, none⟩ = some (.int .i64 u.st) ∧ w.cell? ⟨g, 2, none⟩ = some (.int .i64 u.pg) ∧ w.cell? ⟨g, 3, none⟩ = some (.int .i64 u.sl) ∧
    w.cell? ⟨g, 4, none⟩ = some (.string u.key) ∧ w.cell? ⟨g, 5, none⟩ = some (.int .i64 u.bs) ∧ w.cell? ⟨g, 6, none⟩ = some (.string u.bd) :=
  ⟨h.cell 0, h.cell 1, h.cell 2, h.cell 3, h.cell 4, h.cell 5, h.cell 6⟩

set_option maxHeartbeats 2000000 in
theorem isUndo_good (u : Un) (w : World) (h : u.ok) :
    Calls Try.prog 24 #[.agg u.cs] w fun e w' => e = .returned (.bool true) ∧ Below w.heap.size w w' := by
  have cp := fun w => isPage_any u.pg w
  rw [decide_eq_true h.2.2.2.2.1] at cp
  have CP := Lib.hid cp
  obtain ⟨h1, h2, h3, h4, h5, h6, h7, h8, h9, h10, h11⟩ := h
  have B0 := Lib.hid ((Below.refl w.heap.size w).alloc (Nat.le_refl _) (.cells u.cs 25))
  have K0 := Lib.hid (Bk.new w 25 u.cs)
  have g8 : (u.key.size : Int) ≤ 8 := by omega
  have g11 : (u.bd.size : Int) ≤ 34 := by omega
  have e1 : ¬ u.k < 0 := by omega
  have e2 : ¬ 3 < u.k := by omega
  have e3 : ¬ u.st < 0 := by omega
  have e4 : ¬ 6 < u.st := by omega
  have e5 : ¬ u.sl < 0 := by omega
  have e6 : ¬ 6 ≤ u.sl := by omega
  have e7 : ¬ 8 < u.key.size := by omega
  clear cp h5 h1 h2 h3 h4 h6 h7
  generalize hcs : u.cs = cs at *
  have hcs' := hcs
  unfold Un.cs at hcs
  subst hcs
  go_enter Try.func24, Try.ntmps24
  go_wp2_with fail
  refine (CP.out _).mono ?_
  rintro e w2 ⟨rfl, rfl⟩
  go_wp2
  go_ret
  exact ⟨rfl, B0.out⟩

set_option maxHeartbeats 4000000 in
theorem isUndo_bad (u : Un) (w : World) (h : ¬ u.ok) :
    Calls Try.prog 24 #[.agg u.cs] w fun e w' => e = .returned (.bool false) ∧ Below w.heap.size w w' := by
  have cp := fun w => isPage_any u.pg w
  have B0 := Lib.hid ((Below.refl w.heap.size w).alloc (Nat.le_refl _) (.cells u.cs 25))
  have hh := not_un h
  clear h
  rcases hh with a | ⟨a1, a⟩ | ⟨a1, a2, a⟩ | ⟨a1, a2, a3, a⟩ | ⟨a1, a2, a3, a4, hh⟩
  · clear cp
    unfold Un.cs at *
    go_enter Try.func24, Try.ntmps24
    go_wp2
    go_ret
    exact ⟨rfl, B0.out⟩
  · have e1 : ¬ u.k < 0 := by omega
    clear cp
    unfold Un.cs at *
    go_enter Try.func24, Try.ntmps24
    go_wp2
    go_ret
    exact ⟨rfl, B0.out⟩
  · have e1 : ¬ u.k < 0 := by omega
    have e2 : ¬ 3 < u.k := by omega
    clear cp
    unfold Un.cs at *
    go_enter Try.func24, Try.ntmps24
    go_wp2
    go_ret
    exact ⟨rfl, B0.out⟩
  · have e1 : ¬ u.k < 0 := by omega
    have e2 : ¬ 3 < u.k := by omega
    have e3 : ¬ u.st < 0 := by omega
    clear cp
    unfold Un.cs at *
    go_enter Try.func24, Try.ntmps24
    go_wp2
    go_ret
    exact ⟨rfl, B0.out⟩
  · have e1 : ¬ u.k < 0 := by omega
    have e2 : ¬ 3 < u.k := by omega
    have e3 : ¬ u.st < 0 := by omega
    have e4 : ¬ 6 < u.st := by omega
    clear a1 a2 a3 a4
    unfold Un.cs at *
    rcases hh with hp | ⟨hp, hh⟩
    · rw [decide_eq_false hp] at cp
      have CP := Lib.hid cp
      clear cp hp
      go_enter Try.func24, Try.ntmps24
      go_wp2_with fail
      refine (CP.out _).mono ?_
      rintro e w2 ⟨rfl, rfl⟩
      go_wp2
      go_ret
      exact ⟨rfl, B0.out⟩
    · rw [decide_eq_true hp] at cp
      have CP := Lib.hid cp
      clear cp hp
      rcases hh with c1 | ⟨c2, d1 | ⟨d2, f1 | ⟨f2, g1 | ⟨g2, h1 | ⟨h2, i1⟩⟩⟩⟩⟩
      all_goals
        (try have e5 : ¬ u.sl < 0 := by omega)
        (try have e6 : ¬ 6 ≤ u.sl := by omega)
        (try have e7 : ¬ 8 < u.key.size := by omega)
        (try have e7' : ¬ (8 : Int) < (u.key.size : Int) := by omega)
        (try have f7' : (8 : Int) < (u.key.size : Int) := by omega)
        (try have e8 : ¬ 0 ≤ u.bs := by omega)
        (try have e9 : ¬ u.bs ≤ 2 := by omega)
        (try have e10 : ¬ u.bd.size ≤ 34 := by omega)
        (try have e11 : ¬ (u.bd.size : Int) ≤ 34 := by omega)
        (try have I1 := Lib.hid (show ¬ (u.bd.size : Int) ≤ 34 by omega))
        go_enter Try.func24, Try.ntmps24
        go_wp2_with fail
        refine (CP.out _).mono ?_
        rintro e w2 ⟨rfl, rfl⟩
        go_wp2
        go_ret
        first
          | exact ⟨rfl, B0.out⟩
          | exact ⟨congrArg (fun b => Ending.returned (Value.bool b)) (decide_eq_false (Int.not_le.mpr I1.out)), B0.out⟩
theorem isUndo_any (u : Un) (w : World) :
    Calls Try.prog 24 #[.agg u.cs] w fun e w' => e = .returned (.bool (decide u.ok)) ∧ Below w.heap.size w w' := by
  by_cases h : u.ok
  · rw [decide_eq_true h]; exact isUndo_good u w h
  · rw [decide_eq_false h]; exact isUndo_bad u w h

end Go.Proofs.Ytggabnmfjooejaa
