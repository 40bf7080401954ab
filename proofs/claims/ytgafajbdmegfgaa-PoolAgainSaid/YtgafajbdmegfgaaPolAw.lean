/- Layer 12: awake, walked. -/
import Derived.Test.YtgafajbdmegfgaaPolAwake
set_option linter.unusedVariables false
set_option linter.unusedSimpArgs false
namespace Go.Proofs.Ytgafajbdmegfgaa
open Go.RowKit

theorem pbuild0_if {ops : Array Oper} {rest : List Oper} {o : Oper} {a : Act} {w : World} {Q : Exit → Act → World → Prop} (ho : o.op = .build 40 #[]) (hw : Region.wanted o (yielded ops a.tmps) = true) (h : wpList Try.prog ops Q rest (a.put o.dst (.agg Pg.zero.cs)) w) : wpList Try.prog ops Q (o :: rest) a w := by
  refine wpList_step fun K hK => ?_
  rw [if_pos hw]
  have hb : (Instr.build 40 #[]).run Try.prog w = .ok (.agg Pg.zero.cs) w := by kernel_rfl
  unfold Oper.wp execOp
  simp only [ho, Sem.run_bind, Sem.run_pure, Result.andThen_ok, List.map_toArray, List.map_nil, hb]
  exact hK _ _ h
theorem run_start (N : Nat) : PRun (Dsk.start (blanks N)) := ⟨rfl, rfl⟩
set_option maxRecDepth 100000 in
set_option maxHeartbeats 8000000 in
theorem awake12_any (w : World) : Calls Try.prog 7 #[] w fun e w' => e = .returned (.bool true) ∧ Below w.heap.size w w' := by
  have CN := new_good 140 w (by omega) (by omega)
  rw [show ((140 : Nat) : Int) = 140 from rfl] at CN
  have CN := Lib.hid CN
  go_enter Try.func7, Try.ntmps7
  go_wp2_with fail
  refine CN.out.mono ?_
  rintro e w1 ⟨I, rfl, hd, hb⟩
  have D1 := Lib.hid hd; have B1 := Lib.hid hb
  have CC := create_good 140 0 128 hd (by omega) (by omega) (by omega) hb.size
  rw [show ((0 : Nat) : Int) = 0 from rfl, show ((128 : Nat) : Int) = 128 from rfl] at CC
  have CC := Lib.hid CC
  clear hd hb CN
  obtain ⟨d, f, n, fc, nc, p⟩ := I
  unfold Ids.ptr at *
  dsimp only at *
  go_wp2_with fail
  refine CC.out.mono ?_
  rintro e w2 ⟨g, p', rfl, hw, hb⟩
  have B2 := Lib.hid (B1.out.trans hb)
  have CP := pnew_good hw 128 3 4 (by omega) (by omega) (by omega) (by omega) (by show 128 + 4 * 3 ≤ (blanks 140).length; simp [blanks]) (Nat.le_trans B1.out.size hb.size)
  unfold Ids.ptr Wd.ptr Ids.with at CP
  dsimp only at CP
  rw [show ((128 : Nat) : Int) = 128 from rfl, show ((3 : Nat) : Int) = 3 from rfl, show ((4 : Nat) : Int) = 4 from rfl] at CP
  have CP := Lib.hid CP
  have W2 := Lib.hid hw
  clear hw hb CC B1 D1
  go_wp2_with fail
  refine CP.out.mono ?_
  rintro e w3 ⟨gp, rfl, hq, hb⟩
  have PS := Lib.hid (show Ps w3 w.heap.size _ _ _ _ _ (fun _ => Pg.zero) (fun _ => 0) from ⟨W2.out.kept hb, hq, rfl, rfl, Pv.new 128 3 4 140 (by omega) _ (run_start 140) rfl (by simp [Dsk.start, blanks]), by show 0 + 128 ≤ 128; omega, Nat.le_trans B2.out.size hb.size⟩)
  have B3 := Lib.hid (below_then B2.out hb B2.out.size)
  clear hq hb CP W2 B2
  have hnp : ¬ plT 40 := by unfold plT; decide
  have NP := Lib.hid hnp
  clear hnp
  have PS4 := Lib.hid (PS.out.kept ((Below.refl w3.heap.size w3).alloc (Nat.le_refl _) (.cells pgH1.cs 40)))
  have B4 := Lib.hid (B3.out.alloc B3.out.size (.cells pgH1.cs 40))
  have K4 := Lib.hid (Bk.new w3 40 pgH1.cs)
  obtain ⟨G7, hG7⟩ : ∃ G7, G7 = w3.heap.size := ⟨_, rfl⟩
  rw [← hG7] at K4
  have HG7 := Lib.hid hG7
  clear hG7 PS B3
  go_upto_region 5 with (first | (refine pbuildH1 rfl rfl ?_) | (refine store_page_new rfl _ _ rfl pgH1 rfl rfl ?_; rw [← HG7.out]; clear HG7; generalize w3.alloc (.cells pgH1.cs 40) = w4 at *))
  have CU := ps_put PS4.out 1 (by show 1 < 3; omega) pgH1 pgH1_ok 54 (by omega) (Nat.zero_le _)
  rw [show ((1 : Nat) : Int) = 1 from rfl, show ((54 : Nat) : Int) = 54 from rfl] at CU
  unfold Pd.ptr at CU
  dsimp only at CU
  have CU := Lib.hid CU
  go_wp2_with (refine load_page rfl _ rfl G7 pgH1 rfl K4.out ?_)
  refine CU.out.mono ?_
  rintro e w5 ⟨p5, J5, P5, L5, S5, rfl, eg5, -, hps, -, ep5, -, ho⟩
  have PS5 := Lib.hid hps; have EG5 := Lib.hid eg5
  have K5 := Lib.hid (bk_pf ho K4.out NP.out)
  have B5 := Lib.hid (B4.out.trans (pf_below ho PS4.out.hB))
  have CG := ps_get hps 1 (by rw [ep5]; show 1 < 3; omega)
  rw [show ((1 : Nat) : Int) = 1 from rfl] at CG
  unfold Pd.ptr at CG
  rw [eg5] at CG
  have CG := Lib.hid CG
  have EP5 := Lib.hid (show P5.pages = 3 from ep5)
  clear hps ho eg5 ep5 CU PS4 K4 B4
  go_wp2_with fail
  refine CG.out.mono ?_
  rintro e w6 ⟨J6, P6, y, rfl, hy, eg6, hps, -, ep6, -, ho⟩
  have hyc : y.cs = pgH1.cs := hy
  rw [hyc]
  have PS6 := Lib.hid (hps.kept ((Below.refl w6.heap.size w6).alloc (Nat.le_refl _) (.cells pgH1.cs 40)))
  have K6 := Lib.hid ((bk_pf ho K5.out NP.out).alloc (.cells pgH1.cs 40))
  have Y6 := Lib.hid (Bk.new w6 40 pgH1.cs)
  have B6 := Lib.hid ((B5.out.trans (pf_below ho PS5.out.hB)).alloc (B5.out.trans (pf_below ho PS5.out.hB)).size (.cells pgH1.cs 40))
  have EP6 := Lib.hid (show P6.pages = 3 from ep6.trans EP5.out)
  have EG6 := Lib.hid (show J6.g = gp by first | exact eg6.trans EG5.out | exact eg6)
  obtain ⟨G9, hG9⟩ : ∃ G9, G9 = w6.heap.size := ⟨_, rfl⟩
  rw [← hG9] at Y6
  have HG9 := Lib.hid hG9
  clear hy hyc eg6 hps ep6 ho hG9 CG PS5 K5 B5
  go_upto_region 7 with (refine store_page_new rfl _ _ rfl pgH1 rfl rfl ?_; rw [← HG9.out]; clear HG9; generalize w6.alloc (.cells pgH1.cs 40) = w7 at *)
  have CG := ps_get PS6.out 0 (by have := EP6.out; omega)
  rw [show ((0 : Nat) : Int) = 0 from rfl] at CG
  unfold Pd.ptr at CG
  rw [EG6.out] at CG
  have CG := Lib.hid CG
  go_wp2_with fail
  refine CG.out.mono ?_
  rintro e w8 ⟨J8, P8, z, rfl, hz, -, hps, -, -, -, ho⟩
  have hzc : z.cs = Pg.zero.cs := hz
  rw [hzc]
  have X8 := Lib.hid ((bk_pf ho K6.out NP.out).alloc (.cells Pg.zero.cs 40))
  have Y8 := Lib.hid ((bk_pf ho Y6.out NP.out).alloc (.cells Pg.zero.cs 40))
  have Z8 := Lib.hid (Bk.new w8 40 Pg.zero.cs)
  have B8 := Lib.hid ((B6.out.trans (pf_below ho PS6.out.hB)).alloc (B6.out.trans (pf_below ho PS6.out.hB)).size (.cells Pg.zero.cs 40))
  obtain ⟨G11, hG11⟩ : ∃ G11, G11 = w8.heap.size := ⟨_, rfl⟩
  rw [← hG11] at Z8
  have HG11 := Lib.hid hG11
  clear hz hzc hps ho hG11 CG PS6 K6 Y6 B6
  go_upto_region 8 with (refine store_page_new rfl _ _ rfl Pg.zero rfl rfl ?_; rw [← HG11.out]; clear HG11; generalize w8.alloc (.cells Pg.zero.cs 40) = w9 at *)
  have pe1 : ∀ w, (binOp .eql 40 (.agg pgH1.cs) (.agg pgH1.cs)).run Try.prog w = .ok (.bool true) w := fun w => by have := page_eql pgH1 pgH1 w; rw [pgB_self] at this; exact this
  have pe2 : ∀ w, (binOp .eql 40 (.agg Pg.zero.cs) (.agg Pg.zero.cs)).run Try.prog w = .ok (.bool true) w := fun w => by have := page_eql Pg.zero Pg.zero w; rw [pgB_self] at this; exact this
  go_wp2_with (first
    | (refine load_page_if _ rfl (by first | rfl | kernel_rfl) G9 pgH1 rfl Y8.out ?_)
    | (refine load_page_if _ rfl (by first | rfl | kernel_rfl) G7 pgH1 rfl X8.out ?_)
    | (refine load_page_if _ rfl (by first | rfl | kernel_rfl) G11 Pg.zero rfl Z8.out ?_)
    | (refine pbuild0_if rfl (by first | rfl | kernel_rfl) ?_))
  go_ret
  exact ⟨rfl, B8.out⟩
end Go.Proofs.Ytgafajbdmegfgaa
