/- The walk of logrec.Check: what is wrong ahead of its loops; all together. -/
import Derived.Test.YtggabnmfjooejaaRecCheck
set_option linter.unusedVariables false
set_option linter.unusedSimpArgs false
namespace Go.Proofs.Ytggabnmfjooejaa
open Go.RowKit Go.BigFrame

theorem not_c1 {r : Rc} (h : ¬ r.c1) : r.k < 1 ∨ (¬ r.k < 1 ∧ 6 < r.k) ∨ (¬ r.k < 1 ∧ ¬ 6 < r.k ∧ ¬ isNum r.x) ∨ (¬ r.k < 1 ∧ ¬ 6 < r.k ∧ isNum r.x ∧ ¬ isNum r.fr) := by
  unfold Rc.c1 at h
  by_cases a : isNum r.x <;> by_cases b : isNum r.fr
  · simp only [a, b, and_true, not_true, and_false, or_false] at h ⊢; omega
  · simp only [a, b, and_true, not_true, and_false, or_false, not_false_iff, false_or, true_and] at h ⊢; omega
  · simp only [a, b, and_true, not_true, and_false, or_false, not_false_iff, false_and, true_and] at h ⊢; omega
  · simp only [a, b, and_true, not_true, and_false, or_false, not_false_iff, false_and, true_and] at h ⊢; omega

set_option maxRecDepth 100000 in
set_option maxHeartbeats 2000000 in
theorem check_c1 (r : Rc) (vi vl : Value) (w : World) (h : ¬ r.c1) :
    Calls Try.prog 11 #[.agg (r.cs vi vl)] w fun e w' => e = .returned (.int .i64 1) ∧ Below w.heap.size w w' := by
  have c1 := fun w => isNumber_any r.x w; have c2 := fun w => isNumber_any r.fr w
  have B0 := Lib.hid ((Below.refl w.heap.size w).alloc (Nat.le_refl _) (.cells (r.cs vi vl) 29))
  have hh := not_c1 h
  clear h
  unfold Rc.cs at *
  rcases hh with a | ⟨a1, a⟩ | ⟨a1, a2, a⟩ | ⟨a1, a2, a3, a⟩
  · clear c1 c2
    go_enter Try.func11, Try.ntmps11
    go_wp2
    go_ret
    exact ⟨rfl, B0.out⟩
  · clear c1 c2
    go_enter Try.func11, Try.ntmps11
    go_wp2
    go_ret
    exact ⟨rfl, B0.out⟩
  · rw [decide_eq_false a] at c1
    have C1 := Lib.hid c1
    clear c1 c2 a
    go_enter Try.func11, Try.ntmps11
    go_wp2_with fail
    refine (C1.out _).mono ?_
    rintro e w1 ⟨rfl, rfl⟩
    go_wp2
    go_ret
    exact ⟨rfl, B0.out⟩
  · rw [decide_eq_true a3] at c1
    rw [decide_eq_false a] at c2
    have C1 := Lib.hid c1; have C2 := Lib.hid c2
    clear c1 c2 a a3
    go_enter Try.func11, Try.ntmps11
    go_wp2_with fail
    refine (C1.out _).mono ?_
    rintro e w1 ⟨rfl, rfl⟩
    go_wp2_with fail
    refine (C2.out _).mono ?_
    rintro e w1 ⟨rfl, rfl⟩
    go_wp2
    go_ret
    exact ⟨rfl, B0.out⟩

set_option maxRecDepth 100000 in
set_option maxHeartbeats 2000000 in
theorem check_c23 (r : Rc) (ai : Option Addr) (ci : Nat) (al : Option Addr) (cl : Nat) (w : World) (h1 : r.c1) (h : ¬ (r.c2 ∧ r.c3)) :
    Calls Try.prog 11 #[.agg (r.cs (.slice ai r.ni ci) (.slice al r.nl cl))] w fun e w' => e = .returned (.int .i64 1) ∧ Below w.heap.size w w' := by
  obtain ⟨k1, k2, kx, kf⟩ := h1
  have c1 := fun w => isNumber_any r.x w; have c2 := fun w => isNumber_any r.fr w; have c3 := fun w => isPlace_any r.pv w; have c4 := fun w => isPlace_any r.nx w; have c5 := fun w => isUndo_any r.u w
  rw [decide_eq_true kx] at c1
  rw [decide_eq_true kf] at c2
  have C1 := Lib.hid c1; have C2 := Lib.hid c2
  have K0 := Lib.hid (Bk.new w 29 (r.cs (.slice ai r.ni ci) (.slice al r.nl cl)))
  have B0 := Lib.hid ((Below.refl w.heap.size w).alloc (Nat.le_refl _) (.cells (r.cs (.slice ai r.ni ci) (.slice al r.nl cl)) 29))
  have e1 : ¬ r.k < 1 := by omega
  have e2 : ¬ 6 < r.k := by omega
  clear kx kf c1 c2
  generalize hcs : r.cs (.slice ai r.ni ci) (.slice al r.nl cl) = cs at *
  have hcs' := hcs
  have HCS := Lib.hid hcs'
  unfold Rc.cs at hcs
  subst hcs
  by_cases o3 : isPl r.pv
  · rw [decide_eq_true o3] at c3
    have C3 := Lib.hid c3
    by_cases o4 : isPl r.nx
    · rw [decide_eq_true o4] at c4
      have C4 := Lib.hid c4
      by_cases o5 : r.u.ok
      · rw [decide_eq_true o5] at c5
        have C5 := Lib.hid c5
        have hn : 24 < r.ni ∨ (r.ni ≤ 24 ∧ 8 < r.nl) := by
          have h3 : ¬ r.c3 := fun h3 => h ⟨⟨o3, o4, o5⟩, h3⟩
          unfold Rc.c3 at h3
          omega
        clear o3 o4 o5 c3 c4 c5 h
        rcases hn with a | ⟨a1, a⟩
        · have e3 : (24 : Int) < (r.ni : Int) := by omega
          go_enter Try.func11, Try.ntmps11
          go_wp2_with fail
          refine (C1.out _).mono ?_
          rintro e w1 ⟨rfl, rfl⟩
          go_wp2_with fail
          refine (C2.out _).mono ?_
          rintro e w1 ⟨rfl, rfl⟩
          go_wp2_with fail
          refine (C3.out _).mono ?_
          rintro e w1 ⟨rfl, rfl⟩
          go_wp2_with fail
          refine (C4.out _).mono ?_
          rintro e w1 ⟨rfl, rfl⟩
          go_wp2_with (refine wpList_load_part 25 _ rfl (by first | rfl | kernel_rfl) w.heap.size 4 r.u.cs rfl (rc_undo (by have := K0.out; rw [← HCS.out] at this; exact this)) ?_)
          refine (C5.out _).mono ?_
          rintro e w2 ⟨rfl, hb2⟩
          have k2 := K0.out.kept hb2
          have B2 := Lib.hid (below_then B0.out hb2 (by have := B0.out.size; exact this))
          have x11 := k2.cell 11; have x12 := k2.cell 12
          simp only [List.getElem?_toArray, List.getElem?_cons_zero, List.getElem?_cons_succ] at x11 x12
          clear hb2 k2
          go_wp2
          go_ret
          exact ⟨rfl, B2.out⟩
        · have e3 : ¬ (24 : Int) < (r.ni : Int) := by omega
          have e4 : (8 : Int) < (r.nl : Int) := by omega
          go_enter Try.func11, Try.ntmps11
          go_wp2_with fail
          refine (C1.out _).mono ?_
          rintro e w1 ⟨rfl, rfl⟩
          go_wp2_with fail
          refine (C2.out _).mono ?_
          rintro e w1 ⟨rfl, rfl⟩
          go_wp2_with fail
          refine (C3.out _).mono ?_
          rintro e w1 ⟨rfl, rfl⟩
          go_wp2_with fail
          refine (C4.out _).mono ?_
          rintro e w1 ⟨rfl, rfl⟩
          go_wp2_with (refine wpList_load_part 25 _ rfl (by first | rfl | kernel_rfl) w.heap.size 4 r.u.cs rfl (rc_undo (by have := K0.out; rw [← HCS.out] at this; exact this)) ?_)
          refine (C5.out _).mono ?_
          rintro e w2 ⟨rfl, hb2⟩
          have k2 := K0.out.kept hb2
          have B2 := Lib.hid (below_then B0.out hb2 (by have := B0.out.size; exact this))
          have x11 := k2.cell 11; have x12 := k2.cell 12
          simp only [List.getElem?_toArray, List.getElem?_cons_zero, List.getElem?_cons_succ] at x11 x12
          clear hb2 k2
          go_wp2
          go_ret
          exact ⟨rfl, B2.out⟩
      · rw [decide_eq_false o5] at c5
        have C5 := Lib.hid c5
        clear o3 o4 o5 c3 c4 c5 h
        go_enter Try.func11, Try.ntmps11
        go_wp2_with fail
        refine (C1.out _).mono ?_
        rintro e w1 ⟨rfl, rfl⟩
        go_wp2_with fail
        refine (C2.out _).mono ?_
        rintro e w1 ⟨rfl, rfl⟩
        go_wp2_with fail
        refine (C3.out _).mono ?_
        rintro e w1 ⟨rfl, rfl⟩
        go_wp2_with fail
        refine (C4.out _).mono ?_
        rintro e w1 ⟨rfl, rfl⟩
        go_wp2_with (refine wpList_load_part 25 _ rfl (by first | rfl | kernel_rfl) w.heap.size 4 r.u.cs rfl (rc_undo (by have := K0.out; rw [← HCS.out] at this; exact this)) ?_)
        refine (C5.out _).mono ?_
        rintro e w2 ⟨rfl, hb2⟩
        have B2 := Lib.hid (below_then B0.out hb2 (by have := B0.out.size; exact this))
        clear hb2
        go_wp2
        go_ret
        exact ⟨rfl, B2.out⟩
    · rw [decide_eq_false o4] at c4
      have C4 := Lib.hid c4
      clear o3 o4 c3 c4 c5 h
      go_enter Try.func11, Try.ntmps11
      go_wp2_with fail
      refine (C1.out _).mono ?_
      rintro e w1 ⟨rfl, rfl⟩
      go_wp2_with fail
      refine (C2.out _).mono ?_
      rintro e w1 ⟨rfl, rfl⟩
      go_wp2_with fail
      refine (C3.out _).mono ?_
      rintro e w1 ⟨rfl, rfl⟩
      go_wp2_with fail
      refine (C4.out _).mono ?_
      rintro e w1 ⟨rfl, rfl⟩
      go_wp2
      go_ret
      exact ⟨rfl, B0.out⟩
  · rw [decide_eq_false o3] at c3
    have C3 := Lib.hid c3
    clear o3 c3 c4 c5 h
    go_enter Try.func11, Try.ntmps11
    go_wp2_with fail
    refine (C1.out _).mono ?_
    rintro e w1 ⟨rfl, rfl⟩
    go_wp2_with fail
    refine (C2.out _).mono ?_
    rintro e w1 ⟨rfl, rfl⟩
    go_wp2_with fail
    refine (C3.out _).mono ?_
    rintro e w1 ⟨rfl, rfl⟩
    go_wp2
    go_ret
    exact ⟨rfl, B0.out⟩

theorem rc_ok (r : Rc) : r.ok ↔ r.c1 ∧ (r.c2 ∧ r.c3) ∧ ((∀ i, i < r.ni → (r.im i).ok) ∧ ∀ i, i < r.nl → (r.al i).ok) := by
  unfold Rc.ok Rc.c1 Rc.c2 Rc.c3
  constructor
  · rintro ⟨a, b, c, d⟩; exact ⟨a, ⟨b, c⟩, d⟩
  · rintro ⟨a, ⟨b, c⟩, d⟩; exact ⟨a, b, c, d⟩
/-- Check answers 0 just of a right record, else ErrArg. -/
theorem lcheck_any (r : Rc) (vi vl : Value) (w : World) (hI : ImAt w w.heap.size vi r.ni r.im) (hL : AlAt w w.heap.size vl r.nl r.al) :
    Calls Try.prog 11 #[.agg (r.cs vi vl)] w fun e w' => ((e = .returned (.int .i64 0) ∧ r.ok) ∨ (e = .returned (.int .i64 1) ∧ ¬ r.ok)) ∧ Below w.heap.size w w' := by
  rw [rc_ok]
  by_cases h1 : r.c1
  · by_cases h23 : r.c2 ∧ r.c3
    · refine (check_loops r vi vl w h1 h23.1 h23.2 hI hL).mono ?_
      rintro e w' ⟨⟨he, h⟩ | ⟨he, h⟩, hb⟩
      · exact ⟨.inl ⟨he, h1, h23, h⟩, hb⟩
      · exact ⟨.inr ⟨he, fun hh => h hh.2.2⟩, hb⟩
    · obtain ⟨ai, ci, rfl, _, _⟩ := hI
      obtain ⟨al, cl, rfl, _, _⟩ := hL
      exact (check_c23 r ai ci al cl w h1 h23).mono fun e w' ⟨he, hb⟩ => ⟨.inr ⟨he, fun hh => h23 hh.2.1⟩, hb⟩
  · exact (check_c1 r vi vl w h1).mono fun e w' ⟨he, hb⟩ => ⟨.inr ⟨he, fun hh => h1 hh.1⟩, hb⟩
end Go.Proofs.Ytggabnmfjooejaa
