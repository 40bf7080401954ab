/- The walk of logrec.undoBytes. -/
import Derived.Test.YtggabnmfjooejaaRecUndo
set_option linter.unusedVariables false
set_option linter.unusedSimpArgs false
namespace Go.Proofs.Ytggabnmfjooejaa
open Go.RowKit Go.BigFrame

set_option maxHeartbeats 1000000 in
theorem undoBytes_any (u : Un) (w : World) (h : u.ok) :
    Calls Try.prog 17 #[.agg u.cs] w fun e w' => e = .returned (.string u.bytes) ∧ Below w.heap.size w w' := by
  obtain ⟨h1, h2, h3, h4, h5, h6, h7, h8, h9, h10, h11⟩ := h
  obtain ⟨h51, h52⟩ := h5
  have C1 := Lib.hid (fun w => lnum1 u.k w h1 (by omega)); have C2 := Lib.hid (fun w => lnum1 u.st w h3 (by omega)); have C3 := Lib.hid (fun w => lnum4 u.pg w h51 (by omega)); have C4 := Lib.hid (fun w => lnum1 u.sl w h6 (by omega))
  have C5 := Lib.hid (fun w => ltext_any u.key w (by omega)); have C6 := Lib.hid (fun w => lnum1 u.bs w h9 (by omega)); have C7 := Lib.hid (fun w => ltext_any u.bd w (by omega))
  have z1 : (Oct.str u.k.toNat 1).size = 1 := Oct.str_size _ _
  have z2 : (Oct.str u.st.toNat 1).size = 1 := Oct.str_size _ _
  have z3 : (Oct.str u.pg.toNat 4).size = 4 := Oct.str_size _ _
  have z4 : (Oct.str u.sl.toNat 1).size = 1 := Oct.str_size _ _
  have z5 : (Oct.text u.key).size = 1 + u.key.size := text_size _
  have z6 : (Oct.str u.bs.toNat 1).size = 1 := Oct.str_size _ _
  have z7 : (Oct.text u.bd).size = 1 + u.bd.size := text_size _
  have FIN := Lib.hid (show u.bytes = _ from rfl)
  have K0 := Lib.hid (un_cell (Bk.new w 25 u.cs))
  have B0 := Lib.hid ((Below.refl w.heap.size w).alloc (Nat.le_refl _) (.cells u.cs 25))
  generalize hfb : u.bytes = fb at *
  unfold Un.bytes at hfb
  generalize Oct.str u.k.toNat 1 = t1 at *
  generalize Oct.str u.st.toNat 1 = t2 at *
  generalize Oct.str u.pg.toNat 4 = t3 at *
  generalize Oct.str u.sl.toNat 1 = t4 at *
  generalize Oct.text u.key = t5 at *
  generalize Oct.str u.bs.toNat 1 = t6 at *
  generalize Oct.text u.bd = t7 at *
  have HFB := Lib.hid hfb
  have SZ := Lib.hid (And.intro z1 (And.intro z2 (And.intro z3 (And.intro z4 (And.intro z5 (And.intro z6 (And.intro z7 (And.intro h8 h11))))))))
  clear h1 h2 h3 h4 h51 h52 h6 h7 h8 h9 h10 h11 z1 z2 z3 z4 z5 z6 z7 FIN hfb
  unfold Un.cs at *
  go_enter Try.func17, Try.ntmps17
  go_wp2_with fail
  obtain ⟨x0, x1, x2, x3, x4, x5, x6⟩ := K0.out
  generalize w.alloc (.cells #[Value.int .i64 u.k, .int .i64 u.st, .int .i64 u.pg, .int .i64 u.sl, .string u.key, .int .i64 u.bs, .string u.bd] 25) = w0 at *
  obtain ⟨s1, s2, s3, s4, s5, s6, s7, s8, s9⟩ := SZ.out
  have n0 : ¬ 9223372036854775807 < t1.size + t2.size := by omega
  have n1 : ¬ 9223372036854775807 < t1.size + t2.size + t3.size := by omega
  have n2 : ¬ 9223372036854775807 < t1.size + t2.size + t3.size + t4.size := by omega
  have n3 : ¬ 9223372036854775807 < t1.size + t2.size + t3.size + t4.size + t5.size := by omega
  have n4 : ¬ 9223372036854775807 < t1.size + t2.size + t3.size + t4.size + t5.size + t6.size := by omega
  have n5 : ¬ 9223372036854775807 < t1.size + t2.size + t3.size + t4.size + t5.size + t6.size + t7.size := by omega
  clear s1 s2 s3 s4 s5 s6 s7 s8 s9 K0 SZ
  refine wp_region_kept (by kernel_rfl) (by kernel_rfl) ?_
  (go_big_quiet_want; go_big_quiet_op; go_big_quiet_on)
  (go_big_quiet_want; refine q_int _ rfl w.heap.size 0 _ rfl x0 ?_; simp only [Act.put, List.setIfInBounds_toArray, List.set_cons_succ, List.set_cons_zero]; go_big_quiet_on)
  (go_big_quiet_want; go_big_quiet_op; go_big_quiet_call (exact kp_call (C1.out _)))
  (go_big_quiet_want; go_big_quiet_op; go_big_quiet_on)
  (go_big_quiet_want; refine q_int _ rfl w.heap.size 1 _ rfl x1 ?_; simp only [Act.put, List.setIfInBounds_toArray, List.set_cons_succ, List.set_cons_zero]; go_big_quiet_on)
  (go_big_quiet_want; go_big_quiet_op; go_big_quiet_call (exact kp_call (C2.out _)))
  (go_big_quiet_want; go_big_quiet_op; go_big_quiet_on)
  (go_big_quiet_want; go_big_quiet_op; go_big_quiet_on)
  (go_big_quiet_want; refine q_int _ rfl w.heap.size 2 _ rfl x2 ?_; simp only [Act.put, List.setIfInBounds_toArray, List.set_cons_succ, List.set_cons_zero]; go_big_quiet_on)
  (go_big_quiet_want; go_big_quiet_op; go_big_quiet_call (exact kp_call (C3.out _)))
  (go_big_quiet_want; go_big_quiet_op; go_big_quiet_on)
  (go_big_quiet_want; go_big_quiet_op; go_big_quiet_on)
  (go_big_quiet_want; refine q_int _ rfl w.heap.size 3 _ rfl x3 ?_; simp only [Act.put, List.setIfInBounds_toArray, List.set_cons_succ, List.set_cons_zero]; go_big_quiet_on)
  (go_big_quiet_want; go_big_quiet_op; go_big_quiet_call (exact kp_call (C4.out _)))
  (go_big_quiet_want; go_big_quiet_op; go_big_quiet_on)
  (go_big_quiet_want; go_big_quiet_op; go_big_quiet_on)
  (go_big_quiet_want; refine q_str _ rfl w.heap.size 4 _ rfl x4 ?_; simp only [Act.put, List.setIfInBounds_toArray, List.set_cons_succ, List.set_cons_zero]; go_big_quiet_on)
  (go_big_quiet_want; go_big_quiet_op; go_big_quiet_call (exact kp_call (C5.out _)))
  (go_big_quiet_want; go_big_quiet_op; go_big_quiet_on)
  (go_big_quiet_want; go_big_quiet_op; go_big_quiet_on)
  (go_big_quiet_want; go_big_quiet_op; go_big_quiet_on)
  (go_big_quiet_want; refine q_int _ rfl w.heap.size 5 _ rfl x5 ?_; simp only [Act.put, List.setIfInBounds_toArray, List.set_cons_succ, List.set_cons_zero]; go_big_quiet_on)
  (go_big_quiet_want; go_big_quiet_op; go_big_quiet_call (exact kp_call (C6.out _)))
  (go_big_quiet_want; go_big_quiet_op; go_big_quiet_on)
  (go_big_quiet_want; go_big_quiet_op; go_big_quiet_on)
  (go_big_quiet_want; go_big_quiet_op; go_big_quiet_on)
  (go_big_quiet_want; refine q_str _ rfl w.heap.size 6 _ rfl x6 ?_; simp only [Act.put, List.setIfInBounds_toArray, List.set_cons_succ, List.set_cons_zero]; go_big_quiet_on)
  (go_big_quiet_want; go_big_quiet_op; go_big_quiet_call (exact kp_call (C7.out _)))
  (go_big_quiet_want; go_big_quiet_op; go_big_quiet_on)
  (go_big_quiet_want; go_big_quiet_op; go_big_quiet_on)
  refine wpQuiet_nil ?_
  rintro _ ⟨x, rfl⟩
  have B1 := Lib.hid (B0.out.trans (x.2.mono B0.out.size))
  go_wp2
  go_ret
  exact ⟨by rw [← HFB.out]; rfl, B1.out⟩
end Go.Proofs.Ytggabnmfjooejaa
