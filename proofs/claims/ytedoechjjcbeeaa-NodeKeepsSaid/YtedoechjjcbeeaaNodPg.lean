/- The walk of NodePages. -/
import Derived.Test.YtedoechjjcbeeaaNodAwake
import Derived.Test.YtedoechjjcbeeaaNodRCheck
import Derived.Test.YtedoechjjcbeeaaKept
import Derived.Test.YtedoechjjcbeeaaPgRead
set_option linter.unusedVariables false
set_option linter.unusedSimpArgs false
namespace Go.Proofs.Ytedoechjjcbeeaa
open Go.RowKit Go.BigFrame

theorem q_page {v : World} {o : Oper} {a : Act} {K : Act → Prop} (y : Operand) (ho : o.op = .load 40 y) (g : Nat) (p : Pg)
    (hx : a.eval y = .pointer (some ⟨g, 0, none⟩)) (hb : Bk v g 40 p.cs) (h : K (a.put o.dst (.agg p.cs))) : o.quiet Try.prog a (fun w' => ∃ x : Kp v, w' = x.1) K := by
  refine kp_load 40 y ho _ (fun x => ?_) h
  unfold execOp
  simp only [ho, hx, Instr.loadAt, Instr.sureAddr, Sem.run_bind, Sem.run_pure, Result.andThen_ok, run_loadVar_row x.1 g 40 40 p.cs (0, 0) _ (x.bk hb) Try.underlying40 rfl (by rw [show p.cs.size = 16 from rfl]; kernel_rfl)]
set_option maxRecDepth 100000 in
set_option maxHeartbeats 1000000 in
theorem pages_core (p : Pg) (key : ByteArray) (w : World) (hs : Sz p.c) :
    Calls Try.prog 4 #[p.v, .string key] w fun e w' => e = .returned (.bool true) ∧ Below w.heap.size w w' := by
  have CA := Lib.hid awake_any
  have CF := Lib.hid (fun w => find_any p key w hs)
  have CR := Lib.hid (fun w => rfind_any p key w hs)
  have K1 := Lib.hid (fun w => check_any p w hs); have K2 := Lib.hid (fun w => rcheck_any p w hs)
  have N1 := Lib.hid (fun w => count_any p w); have N2 := Lib.hid (fun w => rcount_any p w)
  have D1 := Lib.hid (fun w => down_any p key w hs); have D2 := Lib.hid (fun w => rdown_any p key w hs)
  unfold IsFnd at CF CR
  have hn := cnt_le p.c
  have hf := Nat.le_trans (fAt_le p key) hn
  have hd := fDown_le p key
  clear hs
  generalize nodeE p = E at *
  generalize cnt p.c = n at *
  generalize fAt p key = at0 at *
  generalize fThere p key = th at *
  generalize fDown p key = dn at *
  unfold Pg.v at *
  go_enter Try.func4, Try.ntmps4
  go_wp2_with fail
  refine (CA.out _).mono ?_
  rintro e w2 ⟨rfl, hb2⟩
  have Q2 := Lib.hid ((Bk.new w 40 p.cs).kept hb2)
  have B2 := Lib.hid (below_then ((Below.refl _ _).alloc (Nat.le_refl _) (.cells p.cs 40)) hb2 (by simp))
  clear hb2 CA
  go_wp2_with (refine load_page rfl _ rfl w.heap.size p rfl Q2.out ?_)
  refine (CF.out _).mono ?_
  rintro e w3 ⟨j, b, rfl, ⟨rfl, rfl⟩, hb3⟩
  have Q3 := Lib.hid (Q2.out.kept hb3)
  have B3 := Lib.hid (below_then B2.out hb3 B2.out.size)
  clear hb3 Q2 B2 CF
  go_wp2_with (refine load_page rfl _ rfl w.heap.size p rfl Q3.out ?_)
  refine (CR.out _).mono ?_
  rintro e w4 ⟨j2, b2, rfl, ⟨rfl, rfl⟩, hb4⟩
  have Q4 := Lib.hid (Q3.out.kept hb4)
  have B4 := Lib.hid (below_then B3.out hb4 B3.out.size)
  clear hb4 Q3 B3 CR
  go_wp2_with fail
  refine wp_region_kept (by kernel_rfl) (by kernel_rfl) ?_
  repeat (first
    | go_big_quiet_skip
    | (go_big_quiet_want; refine q_page _ rfl w.heap.size p rfl Q4.out ?_; simp only [Act.put, List.setIfInBounds_toArray, List.set_cons_succ, List.set_cons_zero]; go_big_quiet_on)
    | (go_big_quiet_want; go_big_quiet_op; first | go_big_quiet_on | go_big_quiet_call (first | exact kp_call (K1.out _) | exact kp_call (K2.out _) | exact kp_call (N1.out _) | exact kp_call (N2.out _) | exact kp_call (D1.out _) | exact kp_call (D2.out _))))
  refine wpQuiet_nil ?_
  rintro _ ⟨x, rfl⟩
  have B5 := Lib.hid (B4.out.trans (x.2.mono B4.out.size))
  go_wp2
  go_ret
  exact ⟨rfl, B5.out⟩
theorem walk_NodePages (v : Value) (p : Pg) (key : ByteArray) (w : World) (h : IsPage v p) (hk : key.size ≤ maxLen) :
    Calls Try.prog 4 #[v, .string key] w fun e w' => e = .returned (.bool true) ∧ Below w.heap.size w w' := by
  rw [h.val]
  exact pages_core p key w (fun i hi => (h.cells i hi).2)
end Go.Proofs.Ytedoechjjcbeeaa
