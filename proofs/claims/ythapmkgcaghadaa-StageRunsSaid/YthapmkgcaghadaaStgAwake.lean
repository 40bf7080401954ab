/- The anchor of the statements. -/
import Derived.Test.YthapmkgcaghadaaStgSS
set_option linter.unusedVariables false
set_option linter.unusedSimpArgs false
namespace Go.Proofs.Ythapmkgcaghadaa
open Go.RowKit Go.Maps

def pg3 : Pg := ⟨3, 0, 0, 0, fun _ => ⟨0, ⟨#[]⟩⟩⟩
theorem pg3_ok : pg3.ok := ⟨by unfold Pg.head pg3; decide, fun i _ => .inl ⟨rfl, rfl⟩⟩
theorem zero_ok : Pg.zero.ok := ⟨by unfold Pg.head Pg.zero; decide, fun i _ => .inl ⟨rfl, rfl⟩⟩
section
variable {ops : Array Oper} {rest : List Oper} {o : Oper} {a : Act} {w : World} {Q : Exit → Act → World → Prop}
theorem build_zero_if (ho : o.op = .build 42 #[]) (hw : Region.wanted o (yielded ops a.tmps) = true) (h : wpList Try.prog ops Q rest (a.put o.dst (.agg Pg.zero.cs)) w) : wpList Try.prog ops Q (o :: rest) a w := by
  refine wpList_step fun K hK => ?_
  rw [if_pos hw]
  have hb : (Instr.build 42 #[]).run Try.prog w = .ok (.agg Pg.zero.cs) w := by kernel_rfl
  unfold Oper.wp execOp
  simp only [ho, Sem.run_bind, Sem.run_pure, Result.andThen_ok, List.map_toArray, List.map_nil, hb]
  exact hK _ _ h
end
set_option maxRecDepth 100000 in
set_option maxHeartbeats 4000000 in
theorem awake_any (w : World) : Calls Try.prog 7 #[] w fun e w' => e = .returned (.bool true) ∧ Below w.heap.size w w' := by
  have CM := memory_good 2 w (by omega) (by omega)
  rw [show ((2 : Nat) : Int) = 2 from rfl] at CM
  have CM := Lib.hid CM
  go_enter Try.func7, Try.ntmps7
  go_wp2_with fail
  refine CM.out.mono ?_
  rintro e w1 ⟨gs, r, rfl, hS, hb⟩
  have S1 := Lib.hid hS; have B1 := Lib.hid hb
  clear hS hb CM
  go_wp2_with fail
  refine (ss_new S1.out B1.out.size).mono ?_
  rintro e w2 ⟨g, b, rfl, hs, hb, hg1, hb1⟩
  have RL := Lib.hid (show r < w2.heap.size from Nat.lt_of_lt_of_le (Bk.lt S1.out.row) hb.size)
  have B2 := Lib.hid ((below_then B1.out hb B1.out.size).alloc (Nat.le_trans B1.out.size hb.size) (.cells pg3.cs 42))
  have S2 := Lib.hid (hs.alloc (.cells pg3.cs 42))
  have K2 := Lib.hid (Bk.new w2 42 pg3.cs)
  obtain ⟨G4, hG4⟩ : ∃ G4, G4 = w2.heap.size := ⟨_, rfl⟩
  rw [← hG4] at K2 RL
  clear hs hb hg1 hb1 S1 B1
  have CS := Lib.hid (ss_set S2.out 1 pg3 (by decide))
  rw [show setE 1 pg3 = 0 from if_pos ⟨by decide, by decide, pg3_ok⟩, show setL [] 1 pg3 = [⟨1, pg3⟩] from if_pos ⟨by decide, by decide, pg3_ok⟩] at CS
  go_upto_region 4 with (refine store_page_new rfl _ _ rfl pg3 rfl rfl ?_; rw [← hG4]; clear hG4; generalize w2.alloc (.cells pg3.cs 42) = w3 at *)
  go_wp2_with (refine load_page rfl _ rfl G4 pg3 rfl K2.out ?_)
  refine CS.out.mono ?_
  rintro e w4 ⟨rfl, hs, hg⟩
  have K4 := Lib.hid (K2.out.grown hg (fun e => by injection e with e; exact (S2.out.sg.mp.ne_bk K2.out) e.symm))
  have B4 := Lib.hid (bl_grow B2.out hg (fun j hj => by cases hj; exact S2.out.sg.bb) B2.out.size)
  have S4 := Lib.hid hs
  clear hs hg K2 B2 S2 CS
  have CG := Lib.hid (ss_get S4.out 1 (by decide) (by decide))
  rw [show ssGet (List.replicate 2 Pg.zero) [⟨1, pg3⟩] 1 = (pg3, 0) from rfl] at CG
  go_wp2_with fail
  refine CG.out.mono ?_
  rintro e w5 ⟨rfl, hb⟩
  have hb' := hb.alloc hb.size (.cells pg3.cs 42)
  have S5 := Lib.hid (S4.out.kept hb')
  have B5 := Lib.hid (below_then B4.out hb' B4.out.size)
  have K5 := Lib.hid (K4.out.kept hb')
  have L5 := Lib.hid (Bk.new w5 42 pg3.cs)
  obtain ⟨G6, hG6⟩ : ∃ G6, G6 = w5.heap.size := ⟨_, rfl⟩
  rw [← hG6] at L5
  clear hb hb' S4 B4 K4 CG
  dsimp only
  go_upto_region 6 with (refine store_page_new rfl _ _ rfl pg3 rfl rfl ?_; rw [← hG6]; clear hG6; generalize w5.alloc (.cells pg3.cs 42) = w6 at *)
  have CG := Lib.hid (shget_any S5.out.sh 1)
  rw [show getPg (List.replicate 2 Pg.zero) 1 = (Pg.zero, 0) from rfl] at CG
  go_wp2_with fail
  refine CG.out.mono ?_
  rintro e w7 ⟨rfl, hb⟩
  have hb' := hb.alloc hb.size (.cells Pg.zero.cs 42)
  have S7 := Lib.hid (S5.out.kept hb')
  have B7 := Lib.hid (below_then B5.out hb' B5.out.size)
  have K7 := Lib.hid (K5.out.kept hb')
  have L7 := Lib.hid (L5.out.kept hb')
  have M7 := Lib.hid (Bk.new w7 42 Pg.zero.cs)
  obtain ⟨G8, hG8⟩ : ∃ G8, G8 = w7.heap.size := ⟨_, rfl⟩
  rw [← hG8] at M7
  clear hb hb' S5 B5 K5 L5 CG
  dsimp only
  go_upto_region 7 with (refine store_page_new rfl _ _ rfl Pg.zero rfl rfl ?_; rw [← hG8]; clear hG8; generalize w7.alloc (.cells Pg.zero.cs 42) = w8 at *)
  have CI := Lib.hid (ss_images S7.out)
  go_wp2_with fail
  refine CI.out.mono ?_
  have h0 : errL (getPg (List.replicate 2 Pg.zero)) [⟨1, pg3⟩] = 0 := rfl
  have h1 : outL (getPg (List.replicate 2 Pg.zero)) [⟨1, pg3⟩] = [⟨1, pg3⟩] := rfl
  rintro e w9 (⟨hne, -, -⟩ | ⟨-, v, rfl, hv, hb⟩)
  · exact absurd h0 hne
  rw [h1] at hv
  have B9 := Lib.hid (below_then B7.out hb B7.out.size)
  have K9 := Lib.hid (K7.out.kept hb)
  have L9 := Lib.hid (L7.out.kept hb)
  have M9 := Lib.hid (M7.out.kept hb)
  rcases hv.irow with ⟨_, h2⟩ | ⟨k, c, rfl, hr, -, -, -, -⟩
  · cases h2
  have c0 : w9.cell? ⟨k, 0, none⟩ = some (.int .i64 1) := hr.cells 0 ⟨1, pg3⟩ rfl 0 _ rfl
  have E1 := fun w => page_eql pg3 pg3 w
  have E2 := fun w => page_eql Pg.zero Pg.zero w
  rw [pgB_self] at E1 E2
  have hl : ([(⟨1, pg3⟩ : Im)].length : Int) = 1 := rfl
  have hl2 : [(⟨1, pg3⟩ : Im)].length = 1 := rfl
  clear hv hb h0 h1 CI S7 B7 K7 L7 M7
  rw [hl2]
  go_wp2_with (first | (refine load_page_if _ rfl (by first | rfl | kernel_rfl) G6 pg3 rfl L9.out ?_) | (refine load_page_if _ rfl (by first | rfl | kernel_rfl) G4 pg3 rfl K9.out ?_) | (refine load_page_if _ rfl (by first | rfl | kernel_rfl) G8 Pg.zero rfl M9.out ?_) | (refine build_zero_if rfl (by first | rfl | kernel_rfl) ?_))
  go_ret
  exact ⟨rfl, B9.out⟩
end Go.Proofs.Ythapmkgcaghadaa
