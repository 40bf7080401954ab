/- The walk of logrec.Decode, of a record without images and without any that live. -/
import Derived.Test.YtggabnmfjooejaaRecRd
import Derived.Deep.MidRow
set_option linter.unusedVariables false
set_option linter.unusedSimpArgs false
namespace Go.Proofs.Ytggabnmfjooejaa
open Go.RowKit Go.BigFrame

def nil_ : Value := .slice none 0 0
theorem rec_load {w : World} {g : Nat} {cs : Array Value} (h : Bk w g 29 cs) (hc : cs.toList.length = 14) : (loadVar 29 ⟨g, 0, none⟩).run Try.prog w = .ok (.agg cs) w :=
  part_load Try.underlying29 w g 0 cs (by rw [hc]; kernel_rfl) fun j u hj => by rw [Nat.zero_add, h.cell]; simpa using hj
theorem rec_results (tmps : Array Value) (w : World) (g : Nat) (cs : Array Value) (h : Bk w g 29 cs) (hc : cs.toList.length = 14) (hp : tmps.getD 2 undef = .pointer (some ⟨g, 0, none⟩)) :
    (results Try.f13 tmps).run Try.prog w = .ok (.tuple #[.agg cs, tmps.getD 3 undef]) w := by
  rw [results_cell_tmp (p := 2) (u := 3) (ty := 29) rfl, hp]
  have := rec_load h hc
  simp [asAddr, Sem.run_pure, Result.andThen, this]
theorem im_none (w : World) (B : Nat) (im : Nat → Im) : ImAt w B nil_ 0 im := ⟨none, 0, rfl, Nat.zero_le _, fun h => absurd h (Nat.lt_irrefl 0)⟩
theorem al_none (w : World) (B : Nat) (al : Nat → Al) : AlAt w B nil_ 0 al := ⟨none, 0, rfl, Nat.zero_le _, fun h => absurd h (Nat.lt_irrefl 0)⟩
def Rc.zero : Rc := ⟨0, 0, 0, 0, Un.zero, 0, fun _ => Im.zero, 0, fun _ => ⟨0, 0, 0⟩, 0⟩
/-- The record that the reader tells, its images and lives left out. -/
def rrec (st : Oct.Rs) : Rc × Oct.Rs :=
  let s1 := rnx st 1; let s2 := rnx s1 4; let s3 := rnx s2 8; let s4 := rnx s3 8; let s5 := rnx s4 4
  (⟨rint st 1, rint s1 4, rint s2 8, rint s3 8, (rundo s5).1, 0, fun _ => Im.zero, 0, fun _ => ⟨0, 0, 0⟩, rint s4 4⟩, (rundo s5).2)
theorem rundo_size (st : Oct.Rs) : ((rundo st).2.getD ⟨#[]⟩).size ≤ (st.getD ⟨#[]⟩).size := by
  refine Nat.le_trans (rtext_size_ _) (Nat.le_trans (rnx_size _ _) (Nat.le_trans (rtext_size_ _) (Nat.le_trans (rnx_size _ _) (Nat.le_trans (rnx_size _ _) (Nat.le_trans (rnx_size _ _) (rnx_size _ _))))))

set_option maxRecDepth 100000 in
set_option maxHeartbeats 2000000 in
theorem decode_head (S : ByteArray) (w : World) (hs : S.size ≤ maxLen) (r : Rc) (s5 s6 s7 s8 : Oct.Rs) (hr : rrec (some S) = (r, s6)) (h5 : True)
    (h7 : rnx s6 1 = s7) (h8 : rnx s7 1 = some ⟨#[]⟩) (c7 : rint s6 1 = 0) (c8 : rint s7 1 = 0) (hok : r.ok) :
    Calls Try.prog 13 #[.string S] w fun e w' => e = .returned (.tuple #[.agg (r.cs nil_ nil_), .int .i64 0]) ∧ Below w.heap.size w w' := by
  have CR := Lib.hid (fun w => rd_read S w)
  have B0 := Lib.hid ((Below.refl w.heap.size w).alloc (Nat.le_refl _) (.cells (Rc.zero.cs nil_ nil_) 29))
  have KA := Lib.hid (Bk.new w 29 (Rc.zero.cs nil_ nil_))
  have HS := Lib.hid hs
  have HR := Lib.hid hr; have H7 := Lib.hid h7; have H8 := Lib.hid h8; have C7 := Lib.hid c7; have C8 := Lib.hid c8; have HOK := Lib.hid hok
  clear hs hr h7 h8 c7 c8 hok h5
  unfold Rc.cs nil_ at *
  go_enter Try.func13, Try.ntmps13
  go_wp2_with fail
  refine (CR.out _).mono ?_
  rintro e w2 ⟨rfl, hr2, hb2, hl2⟩
  have R2 := Lib.hid hr2; have KA2 := Lib.hid (KA.out.kept hb2); have B2 := Lib.hid (below_then B0.out hb2 B0.out.size)
  simp only [World.size_alloc] at hl2
  have GL := Lib.hid hl2
  clear hb2 hr2 hl2 CR KA B0
  go_wp2_with fail
  have HW := Lib.hid (show w.heap.size + 1 < w2.heap.size from GL.out)
  have X0 := Lib.hid (show RdSt (w2.alloc (.cells #[Value.int .i64 Rc.zero.k, .int .i64 Rc.zero.x, .int .i64 Rc.zero.pv, .int .i64 Rc.zero.nx, .int .i64 Rc.zero.u.k, .int .i64 Rc.zero.u.st, .int .i64 Rc.zero.u.pg, .int .i64 Rc.zero.u.sl, .string Rc.zero.u.key, .int .i64 Rc.zero.u.bs, .string Rc.zero.u.bd, .slice none 0 0, .slice none 0 0, .int .i64 Rc.zero.fr] 29)) (w.heap.size + 1) (some S) from by
    have := R2.out
    rw [World.size_alloc] at this
    exact RdAt.below this ((Below.refl _ _).alloc (Nat.le_refl _) _) GL.out)
  have A0 := Lib.hid (KA2.out.alloc (.cells #[Value.int .i64 Rc.zero.k, .int .i64 Rc.zero.x, .int .i64 Rc.zero.pv, .int .i64 Rc.zero.nx, .int .i64 Rc.zero.u.k, .int .i64 Rc.zero.u.st, .int .i64 Rc.zero.u.pg, .int .i64 Rc.zero.u.sl, .string Rc.zero.u.key, .int .i64 Rc.zero.u.bs, .string Rc.zero.u.bd, .slice none 0 0, .slice none 0 0, .int .i64 Rc.zero.fr] 29))
  have L0 := Lib.hid (Bk.new w2 29 #[Value.int .i64 Rc.zero.k, .int .i64 Rc.zero.x, .int .i64 Rc.zero.pv, .int .i64 Rc.zero.nx, .int .i64 Rc.zero.u.k, .int .i64 Rc.zero.u.st, .int .i64 Rc.zero.u.pg, .int .i64 Rc.zero.u.sl, .string Rc.zero.u.key, .int .i64 Rc.zero.u.bs, .string Rc.zero.u.bd, .slice none 0 0, .slice none 0 0, .int .i64 Rc.zero.fr])
  have D0 := Lib.hid (B2.out.alloc B2.out.size (.cells #[Value.int .i64 Rc.zero.k, .int .i64 Rc.zero.x, .int .i64 Rc.zero.pv, .int .i64 Rc.zero.nx, .int .i64 Rc.zero.u.k, .int .i64 Rc.zero.u.st, .int .i64 Rc.zero.u.pg, .int .i64 Rc.zero.u.sl, .string Rc.zero.u.key, .int .i64 Rc.zero.u.bs, .string Rc.zero.u.bd, .slice none 0 0, .slice none 0 0, .int .i64 Rc.zero.fr] 29))
  have Z0 := Lib.hid (show ((some S : Oct.Rs).getD ⟨#[]⟩).size ≤ maxLen from HS.out)
  clear R2 KA2 B2
  have Z1 := Lib.hid (Nat.le_trans (rnx_size (some S) 1) Z0.out)
  refine (next_any (w.heap.size + 1) 1 _ _ X0.out Z0.out).mono ?_
  rintro e v1 ⟨rfl, r1, g1⟩
  have X1 := Lib.hid r1; have A1 := Lib.hid (A0.out.grown g1 (by simp)); have L1 := Lib.hid (L0.out.grown g1 (by have := HW.out; simp; omega)); have D1 := Lib.hid (D0.out.grown g1 D0.out.size (by intro k hk; simp at hk; omega))
  clear r1 g1 X0 A0 L0 D0
  go_wp2_with fail
  have Z2 := Lib.hid (Nat.le_trans (rnx_size (rnx (some S) 1) 4) Z1.out)
  refine (next_any (w.heap.size + 1) 4 _ _ X1.out Z1.out).mono ?_
  rintro e v2 ⟨rfl, r1, g1⟩
  have X2 := Lib.hid r1; have A2 := Lib.hid (A1.out.grown g1 (by simp)); have L2 := Lib.hid (L1.out.grown g1 (by have := HW.out; simp; omega)); have D2 := Lib.hid (D1.out.grown g1 D1.out.size (by intro k hk; simp at hk; omega))
  clear r1 g1 X1 A1 L1 D1
  go_wp2_with fail
  have Z3 := Lib.hid (Nat.le_trans (rnx_size (rnx (rnx (some S) 1) 4) 8) Z2.out)
  refine (next_any (w.heap.size + 1) 8 _ _ X2.out Z2.out).mono ?_
  rintro e v3 ⟨rfl, r1, g1⟩
  have X3 := Lib.hid r1; have A3 := Lib.hid (A2.out.grown g1 (by simp)); have L3 := Lib.hid (L2.out.grown g1 (by have := HW.out; simp; omega)); have D3 := Lib.hid (D2.out.grown g1 D2.out.size (by intro k hk; simp at hk; omega))
  clear r1 g1 X2 A2 L2 D2
  go_wp2_with fail
  have Z4 := Lib.hid (Nat.le_trans (rnx_size (rnx (rnx (rnx (some S) 1) 4) 8) 8) Z3.out)
  refine (next_any (w.heap.size + 1) 8 _ _ X3.out Z3.out).mono ?_
  rintro e v4 ⟨rfl, r1, g1⟩
  have X4 := Lib.hid r1; have A4 := Lib.hid (A3.out.grown g1 (by simp)); have L4 := Lib.hid (L3.out.grown g1 (by have := HW.out; simp; omega)); have D4 := Lib.hid (D3.out.grown g1 D3.out.size (by intro k hk; simp at hk; omega))
  clear r1 g1 X3 A3 L3 D3
  go_wp2_with fail
  have Z5 := Lib.hid (Nat.le_trans (rnx_size (rnx (rnx (rnx (rnx (some S) 1) 4) 8) 8) 4) Z4.out)
  refine (next_any (w.heap.size + 1) 4 _ _ X4.out Z4.out).mono ?_
  rintro e v5 ⟨rfl, r1, g1⟩
  have X5 := Lib.hid r1; have A5 := Lib.hid (A4.out.grown g1 (by simp)); have L5 := Lib.hid (L4.out.grown g1 (by have := HW.out; simp; omega)); have D5 := Lib.hid (D4.out.grown g1 D4.out.size (by intro k hk; simp at hk; omega))
  clear r1 g1 X4 A4 L4 D4
  generalize hst5 : (rnx (rnx (rnx (rnx (rnx (some S) 1) 4) 8) 8) 4) = st5 at *
  have HST5 := Lib.hid hst5
  clear hst5
  generalize hq0 : rint (some S) 1 = q0 at *
  generalize hq1 : rint (rnx (some S) 1) 4 = q1 at *
  generalize hq2 : rint (rnx (rnx (some S) 1) 4) 8 = q2 at *
  generalize hq3 : rint (rnx (rnx (rnx (some S) 1) 4) 8) 8 = q3 at *
  generalize hq4 : rint (rnx (rnx (rnx (rnx (some S) 1) 4) 8) 8) 4 = q4 at *
  have HQ := Lib.hid (And.intro hq0 (And.intro hq1 (And.intro hq2 (And.intro hq3 hq4))))
  clear hq0 hq1 hq2 hq3 hq4
  have z0 := L5.out.cell 0; have y0 := L5.out.fz 0
  have z1 := L5.out.cell 1; have y1 := L5.out.fz 1
  have z2 := L5.out.cell 2; have y2 := L5.out.fz 2
  have z3 := L5.out.cell 3; have y3 := L5.out.fz 3
  have z4 := L5.out.cell 13; have y4 := L5.out.fz 13
  simp only [List.getElem?_toArray, List.getElem?_cons_zero, List.getElem?_cons_succ] at z0 z1 z2 z3 z4
  have hna : w.heap.size ≠ w2.heap.size := by have := HW.out; omega
  have hng : w.heap.size + 1 ≠ w2.heap.size := by have := HW.out; omega
  have hge : w.heap.size ≤ w2.heap.size := by have := HW.out; omega
  have HNA := Lib.hid hna; have HNG := Lib.hid hng; have HGE := Lib.hid hge
  have X6 := Lib.hid ((RdSt.far (RdSt.far (RdSt.far (RdSt.far (RdSt.far X5.out (p := ⟨w2.heap.size, 0, none⟩) hng (.int .i64 q0)) (p := ⟨w2.heap.size, 1, none⟩) hng (.int .i64 q1)) (p := ⟨w2.heap.size, 2, none⟩) hng (.int .i64 q2)) (p := ⟨w2.heap.size, 3, none⟩) hng (.int .i64 q3)) (p := ⟨w2.heap.size, 13, none⟩) hng (.int .i64 q4)))
  have A6 := Lib.hid ((Bk.far (Bk.far (Bk.far (Bk.far (Bk.far A5.out (p := ⟨w2.heap.size, 0, none⟩) hna (.int .i64 q0)) (p := ⟨w2.heap.size, 1, none⟩) hna (.int .i64 q1)) (p := ⟨w2.heap.size, 2, none⟩) hna (.int .i64 q2)) (p := ⟨w2.heap.size, 3, none⟩) hna (.int .i64 q3)) (p := ⟨w2.heap.size, 13, none⟩) hna (.int .i64 q4)))
  have D6 := Lib.hid ((Below.setCell (Below.setCell (Below.setCell (Below.setCell (Below.setCell D5.out (p := ⟨w2.heap.size, 0, none⟩) hge (.int .i64 q0)) (p := ⟨w2.heap.size, 1, none⟩) hge (.int .i64 q1)) (p := ⟨w2.heap.size, 2, none⟩) hge (.int .i64 q2)) (p := ⟨w2.heap.size, 3, none⟩) hge (.int .i64 q3)) (p := ⟨w2.heap.size, 13, none⟩) hge (.int .i64 q4)))
  have L6 := Lib.hid (show Bk (((((v5.setCell ⟨w2.heap.size, 0, none⟩ (.int .i64 q0)).setCell ⟨w2.heap.size, 1, none⟩ (.int .i64 q1)).setCell ⟨w2.heap.size, 2, none⟩ (.int .i64 q2)).setCell ⟨w2.heap.size, 3, none⟩ (.int .i64 q3)).setCell ⟨w2.heap.size, 13, none⟩ (.int .i64 q4)) w2.heap.size 29 #[.int .i64 q0, .int .i64 q1, .int .i64 q2, .int .i64 q3, .int .i64 Rc.zero.u.k, .int .i64 Rc.zero.u.st, .int .i64 Rc.zero.u.pg, .int .i64 Rc.zero.u.sl, .string Rc.zero.u.key, .int .i64 Rc.zero.u.bs, .string Rc.zero.u.bd, .slice none 0 0, .slice none 0 0, .int .i64 q4] from (Bk.set (Bk.set (Bk.set (Bk.set (Bk.set L5.out 0 (.int .i64 q0)) 1 (.int .i64 q1)) 2 (.int .i64 q2)) 3 (.int .i64 q3)) 13 (.int .i64 q4)))
  clear X5 A5 L5 D5
  go_wp2_with fail
  clear z0 z1 z2 z3 z4 y0 y1 y2 y3 y4 hna hng hge
  generalize (((((v5.setCell ⟨w2.heap.size, 0, none⟩ (.int .i64 q0)).setCell ⟨w2.heap.size, 1, none⟩ (.int .i64 q1)).setCell ⟨w2.heap.size, 2, none⟩ (.int .i64 q2)).setCell ⟨w2.heap.size, 3, none⟩ (.int .i64 q3)).setCell ⟨w2.heap.size, 13, none⟩ (.int .i64 q4)) = v6 at *
  refine (readUndo_any (w.heap.size + 1) st5 v6 X6.out Z5.out).mono ?_
  rintro e v7 ⟨rfl, r1, g1⟩
  have ZU := Lib.hid (Nat.le_trans (rundo_size st5) Z5.out)
  have X7 := Lib.hid r1; have A7 := Lib.hid (A6.out.grown g1 (by simp)); have L7 := Lib.hid (L6.out.grown g1 (by have := HW.out; simp; omega)); have D7 := Lib.hid (D6.out.grown g1 D6.out.size (by intro k hk; simp at hk; omega))
  clear r1 g1 X6 A6 L6 D6
  generalize hru : rundo st5 = ru at *
  obtain ⟨u, st6⟩ := ru
  have HRU := Lib.hid hru
  clear hru
  dsimp only at X7 ZU ⊢
  have hth : v7.there w2.heap.size 4 u.cs.size := fun j hj => ⟨by
    rw [L7.out.cell]
    have : j < 7 := hj
    have : j = 0 ∨ j = 1 ∨ j = 2 ∨ j = 3 ∨ j = 4 ∨ j = 5 ∨ j = 6 := by omega
    rcases this with rfl | rfl | rfl | rfl | rfl | rfl | rfl <;> rfl, L7.out.fz _⟩
  have HTH := Lib.hid hth
  clear hth
  have hW : (v7.setCells w2.heap.size 4 u.cs.toList) = (((((((v7.setCell ⟨w2.heap.size, 4, none⟩ (.int .i64 u.k)).setCell ⟨w2.heap.size, 5, none⟩ (.int .i64 u.st)).setCell ⟨w2.heap.size, 6, none⟩ (.int .i64 u.pg)).setCell ⟨w2.heap.size, 7, none⟩ (.int .i64 u.sl)).setCell ⟨w2.heap.size, 8, none⟩ (.string u.key)).setCell ⟨w2.heap.size, 9, none⟩ (.int .i64 u.bs)).setCell ⟨w2.heap.size, 10, none⟩ (.string u.bd)) := rfl
  have hna := HNA.out; have hng := HNG.out; have hge := HGE.out
  have X8 := Lib.hid (show RdSt (v7.setCells w2.heap.size 4 u.cs.toList) (w.heap.size + 1) st6 from hW ▸ (RdSt.far (RdSt.far (RdSt.far (RdSt.far (RdSt.far (RdSt.far (RdSt.far X7.out (p := ⟨w2.heap.size, 4, none⟩) hng (.int .i64 u.k)) (p := ⟨w2.heap.size, 5, none⟩) hng (.int .i64 u.st)) (p := ⟨w2.heap.size, 6, none⟩) hng (.int .i64 u.pg)) (p := ⟨w2.heap.size, 7, none⟩) hng (.int .i64 u.sl)) (p := ⟨w2.heap.size, 8, none⟩) hng (.string u.key)) (p := ⟨w2.heap.size, 9, none⟩) hng (.int .i64 u.bs)) (p := ⟨w2.heap.size, 10, none⟩) hng (.string u.bd)))
  have A8 := Lib.hid (show Bk (v7.setCells w2.heap.size 4 u.cs.toList) w.heap.size _ _ from hW ▸ (Bk.far (Bk.far (Bk.far (Bk.far (Bk.far (Bk.far (Bk.far A7.out (p := ⟨w2.heap.size, 4, none⟩) hna (.int .i64 u.k)) (p := ⟨w2.heap.size, 5, none⟩) hna (.int .i64 u.st)) (p := ⟨w2.heap.size, 6, none⟩) hna (.int .i64 u.pg)) (p := ⟨w2.heap.size, 7, none⟩) hna (.int .i64 u.sl)) (p := ⟨w2.heap.size, 8, none⟩) hna (.string u.key)) (p := ⟨w2.heap.size, 9, none⟩) hna (.int .i64 u.bs)) (p := ⟨w2.heap.size, 10, none⟩) hna (.string u.bd)))
  have D8 := Lib.hid (show Below w.heap.size w (v7.setCells w2.heap.size 4 u.cs.toList) from hW ▸ (Below.setCell (Below.setCell (Below.setCell (Below.setCell (Below.setCell (Below.setCell (Below.setCell D7.out (p := ⟨w2.heap.size, 4, none⟩) hge (.int .i64 u.k)) (p := ⟨w2.heap.size, 5, none⟩) hge (.int .i64 u.st)) (p := ⟨w2.heap.size, 6, none⟩) hge (.int .i64 u.pg)) (p := ⟨w2.heap.size, 7, none⟩) hge (.int .i64 u.sl)) (p := ⟨w2.heap.size, 8, none⟩) hge (.string u.key)) (p := ⟨w2.heap.size, 9, none⟩) hge (.int .i64 u.bs)) (p := ⟨w2.heap.size, 10, none⟩) hge (.string u.bd)))
  have L8 := Lib.hid (show Bk (v7.setCells w2.heap.size 4 u.cs.toList) w2.heap.size 29 #[.int .i64 q0, .int .i64 q1, .int .i64 q2, .int .i64 q3, .int .i64 u.k, .int .i64 u.st, .int .i64 u.pg, .int .i64 u.sl, .string u.key, .int .i64 u.bs, .string u.bd, .slice none 0 0, .slice none 0 0, .int .i64 q4] from hW ▸ (Bk.set (Bk.set (Bk.set (Bk.set (Bk.set (Bk.set (Bk.set L7.out 4 (.int .i64 u.k)) 5 (.int .i64 u.st)) 6 (.int .i64 u.pg)) 7 (.int .i64 u.sl)) 8 (.string u.key)) 9 (.int .i64 u.bs)) 10 (.string u.bd)))
  clear hW hna hng hge X7 A7 L7 D7
  have h1c : u.cs.all (·.oneCell') = true := by simp [Value.oneCell', Un.cs]
  have H1C := Lib.hid h1c
  clear h1c
  go_wp2_with (refine wpList_store_mid rfl 25 _ _ rfl w2.heap.size 4 u.cs rfl rfl HTH.out (by kernel_rfl) H1C.out ?_; generalize v7.setCells w2.heap.size 4 u.cs.toList = v8 at X8 A8 D8 L8 ⊢)
  have hrs : r = ⟨q0, q1, q2, q3, u, 0, fun _ => Im.zero, 0, fun _ => ⟨0, 0, 0⟩, q4⟩ ∧ s6 = st6 := by
    have h := HR.out
    obtain ⟨e0, e1, e2, e3, e4⟩ := HQ.out
    simp only [rrec] at h
    rw [HST5.out, HRU.out, e0, e1, e2, e3, e4] at h
    exact ⟨(Prod.mk.inj h).1.symm, (Prod.mk.inj h).2.symm⟩
  obtain ⟨hr1, rfl⟩ := hrs
  have HR1 := Lib.hid hr1
  clear hr1
  refine (next_any (w.heap.size + 1) 1 _ _ X8.out ZU.out).mono ?_
  rintro e v9 ⟨rfl, r1, g1⟩
  rw [H7.out] at r1
  rw [C7.out]
  have Z9 := Lib.hid (show (s7.getD ⟨#[]⟩).size ≤ maxLen by rw [← H7.out]; exact Nat.le_trans (rnx_size _ _) ZU.out)
  have X9 := Lib.hid r1; have A9 := Lib.hid (A8.out.grown g1 (by simp)); have L9 := Lib.hid (L8.out.grown g1 (by have := HW.out; simp; omega)); have D9 := Lib.hid (D8.out.grown g1 D8.out.size (by intro k hk; simp at hk; omega))
  clear r1 g1 X8 A8 L8 D8
  go_wp2_with fail
  go_loopw [31] (fun i wr => i = .int .i64 0 ∧ wr = v9) (fun i _ => 0)
  case atStart => exact ⟨rfl, rfl⟩
  case round =>
    obtain ⟨rfl, rfl⟩ := hrel
    go_wp2_with fail
    refine (next_any (w.heap.size + 1) 1 _ _ X9.out Z9.out).mono ?_
    rintro e v10 ⟨rfl, r1, g1⟩
    rw [H8.out] at r1
    rw [C8.out]
    have X10 := Lib.hid r1; have A10 := Lib.hid (A9.out.grown g1 (by simp)); have L10 := Lib.hid (L9.out.grown g1 (by have := HW.out; simp; omega)); have D10 := Lib.hid (D9.out.grown g1 D9.out.size (by intro k hk; simp at hk; omega))
    clear r1 g1 X9 A9 L9 D9
    go_wp2_with fail
    go_loopw [55] (fun i wr => i = .int .i64 0 ∧ wr = v10) (fun i _ => 0)
    case atStart => exact ⟨rfl, rfl⟩
    case round =>
      obtain ⟨rfl, rfl⟩ := hrel
      go_wp2_with fail
      refine (rd_isbad (w.heap.size + 1) _ _ X10.out).mono ?_
      rintro e v11 ⟨rfl, rfl⟩
      go_wp2_with fail
      refine (rd_left (w.heap.size + 1) _ _ X10.out).mono ?_
      rintro e v11 ⟨rfl, rfl⟩
      have ck : ∀ wx, Calls Try.prog 11 #[.agg #[.int .i64 q0, .int .i64 q1, .int .i64 q2, .int .i64 q3, .int .i64 u.k, .int .i64 u.st, .int .i64 u.pg, .int .i64 u.sl, .string u.key, .int .i64 u.bs, .string u.bd, .slice none 0 0, .slice none 0 0, .int .i64 q4]] wx fun e w' => ((e = .returned (.int .i64 0) ∧ r.ok) ∨ (e = .returned (.int .i64 1) ∧ ¬ r.ok)) ∧ Below wx.heap.size wx w' := fun wx => by
        have h := lcheck_any r nil_ nil_ wx (by rw [HR1.out]; exact im_none _ _ _) (by rw [HR1.out]; exact al_none _ _ _)
        have e : r.cs nil_ nil_ = #[.int .i64 q0, .int .i64 q1, .int .i64 q2, .int .i64 q3, .int .i64 u.k, .int .i64 u.st, .int .i64 u.pg, .int .i64 u.sl, .string u.key, .int .i64 u.bs, .string u.bd, .slice none 0 0, .slice none 0 0, .int .i64 q4] := by rw [HR1.out]; rfl
        rw [e] at h
        exact h
      have CK := Lib.hid ck
      have E := Lib.hid (show r.cs nil_ nil_ = #[.int .i64 q0, .int .i64 q1, .int .i64 q2, .int .i64 q3, .int .i64 u.k, .int .i64 u.st, .int .i64 u.pg, .int .i64 u.sl, .string u.key, .int .i64 u.bs, .string u.bd, .slice none 0 0, .slice none 0 0, .int .i64 q4] by rw [HR1.out]; rfl)
      clear ck
      have TOK : True := trivial
      go_wp2_with (have _t := TOK; refine wpList_load_part 29 _ rfl (by first | rfl | kernel_rfl) w2.heap.size 0 _ rfl (rec_load L10.out rfl) ?_; clear TOK _t)
      refine (CK.out _).mono ?_
      rintro e v12 ⟨⟨rfl, _⟩ | ⟨_, hno⟩, hb⟩
      · have A12 := Lib.hid (A10.out.kept hb); have L12 := Lib.hid (L10.out.kept hb); have D12 := Lib.hid (below_then D10.out hb D10.out.size)
        clear hb X10 A10 L10 D10 CK
        generalize hL : (#[.int .i64 q0, .int .i64 q1, .int .i64 q2, .int .i64 q3, .int .i64 u.k, .int .i64 u.st, .int .i64 u.pg, .int .i64 u.sl, .string u.key, .int .i64 u.bs, .string u.bd, .slice none 0 0, .slice none 0 0, .int .i64 q4] : Array Value) = L at *
        have hL14 : L.toList.length = 14 := by rw [← hL]; rfl
        have hL1 : L.all (·.oneCell') = true := by rw [← hL]; simp [Value.oneCell']
        have hLs : L.size = 14 := by rw [← hL]; rfl
        clear hL
        have T1 : True := trivial
        go_wp2_with (first
          | (have _t := T1; refine wpList_load_part 29 _ rfl (by first | rfl | kernel_rfl) w2.heap.size 0 L rfl (rec_load L12.out hL14) ?_; clear T1 _t; have T2 : True := trivial)
          | (have _t := T2; refine wpList_store_row rfl 29 _ _ rfl w.heap.size L rfl rfl 29 _ A12.out (by rw [hLs]; kernel_rfl) (by rw [hLs]; rfl) hL1 ?_; clear T2 _t))
        refine bodyPost_ret (rec_results _ _ w.heap.size L (setRow_heap _ _ _ _ _ _ A12.out) hL14 rfl) rfl ?_
        have h := D12.out
        exact ⟨by rw [← E.out]; rfl, ⟨h.os, h.tape, h.output, by simpa [World.setRow] using h.size, fun i hi => (setRow_other _ _ _ _ (by omega)).trans (h.block i hi)⟩⟩
      · exact absurd HOK.out hno
end Go.Proofs.Ytggabnmfjooejaa
