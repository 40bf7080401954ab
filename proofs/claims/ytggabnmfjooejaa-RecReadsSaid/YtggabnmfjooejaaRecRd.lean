/- The walks of logrec.next, readUndo. -/
import Derived.Test.YtggabnmfjooejaaRecEnc
import Derived.Test.YtggabnmfjooejaaOctRd2
set_option linter.unusedVariables false
set_option linter.unusedSimpArgs false
namespace Go.Proofs.Ytggabnmfjooejaa
open Go.RowKit Go.BigFrame

/-- A number of the reader's, as an int. -/
def rint (st : Oct.Rs) (n : Int) : Int := wrap64 ((Oct.rnum st n).1 : Nat)
/-- What is behind it. -/
def rnx (st : Oct.Rs) (n : Int) : Oct.Rs := (Oct.rnum st n).2
theorem rnx_size (st : Oct.Rs) (n : Int) : ((rnx st n).getD ⟨#[]⟩).size ≤ (st.getD ⟨#[]⟩).size := rnum_size st n

theorem next_any (g : Nat) (n : Int) (st : Oct.Rs) (w : World) (h : RdSt w g st) (hs : (st.getD ⟨#[]⟩).size ≤ maxLen) :
    Calls Try.prog 30 #[.pointer (some ⟨g, 0, none⟩), .int .i64 n] w fun e w' => e = .returned (.int .i64 (rint st n)) ∧ RdSt w' g (rnx st n) ∧ w.grownBy w' (some g) := by
  have C := Lib.hid (rd_num g n st w h hs)
  have R := Lib.hid (show rint st n = wrap64 ((Oct.rnum st n).1 : Nat) from rfl)
  have X := Lib.hid (show rnx st n = (Oct.rnum st n).2 from rfl)
  clear h hs
  generalize rint st n = ri at *
  generalize rnx st n = rx at *
  generalize Oct.rnum st n = p at *
  go_enter Try.func30, Try.ntmps30
  go_wp2_with fail
  refine C.out.mono ?_
  rintro e w1 ⟨rfl, hr, hg⟩
  have HR := Lib.hid hr; have HG := Lib.hid hg
  clear hr hg
  go_wp2
  go_ret
  refine ⟨?_, by rw [X.out]; exact HR.out, HG.out⟩
  rw [R.out]
  rfl

/-- How a change is taken back, as the reader tells it. -/
def rundo (st : Oct.Rs) : Un × Oct.Rs :=
  let s1 := rnx st 1; let s2 := rnx s1 1; let s3 := rnx s2 4; let s4 := rnx s3 1; let s5 := (Oct.rtext s4).2; let s6 := rnx s5 1
  (⟨rint st 1, rint s1 1, rint s2 4, rint s3 1, (Oct.rtext s4).1, rint s5 1, (Oct.rtext s6).1⟩, (Oct.rtext s6).2)
theorem rtext_size_ (st : Oct.Rs) : ((Oct.rtext st).2.getD ⟨#[]⟩).size ≤ (st.getD ⟨#[]⟩).size := Nat.le_trans (rbytes_size _ _) (rnum_size _ _)
theorem undo_load {w : World} {g : Nat} {cs : Array Value} (h : Bk w g 25 cs) (hc : cs.toList.length = 7) : (loadVar 25 ⟨g, 0, none⟩).run Try.prog w = .ok (.agg cs) w :=
  part_load Try.underlying25 w g 0 cs (by rw [hc]; kernel_rfl) fun j u hj => by rw [Nat.zero_add, h.cell]; simpa using hj
theorem RdSt.far {w : World} {g : Nat} {st : Oct.Rs} (h : RdSt w g st) {p : Addr} (hp : g ≠ p.block) (u : Value) : RdSt (w.setCell p u) g st := (Below.heap_setCell w p u g hp).trans h
def Un.zero : Un := ⟨0, 0, 0, 0, ⟨#[]⟩, 0, ⟨#[]⟩⟩

set_option maxHeartbeats 1000000 in
theorem readUndo_any (g : Nat) (st : Oct.Rs) (w : World) (h : RdSt w g st) (hs : (st.getD ⟨#[]⟩).size ≤ maxLen) :
    Calls Try.prog 31 #[.pointer (some ⟨g, 0, none⟩)] w fun e w' => e = .returned (.agg (rundo st).1.cs) ∧ RdSt w' g (rundo st).2 ∧ w.grownBy w' (some g) := by
  have NX := Lib.hid (fun n st w h hs => next_any g n st w h hs); have TX := Lib.hid (fun st w h hs => rd_text g st w h hs)
  have RU := Lib.hid (show (rundo st) = _ from rfl)
  have HL := Lib.hid (show g < w.heap.size from RdAt.lt h)
  have R0 := Lib.hid (show RdSt ((w.alloc (.cells Un.zero.cs 25)).alloc (.cells Un.zero.cs 25)) g st from RdAt.below (RdAt.below h ((Below.refl w.heap.size w).alloc (Nat.le_refl _) _) (RdAt.lt h)) ((Below.refl _ _).alloc (Nat.le_refl _) _) (by have := RdAt.lt h; simp; omega))
  have G0 := Lib.hid (show w.grownBy ((w.alloc (.cells Un.zero.cs 25)).alloc (.cells Un.zero.cs 25)) (some g) from only_alloc (only_alloc (only_below (Below.refl _ _) _) _) _)
  have KA := Lib.hid ((Bk.new w 25 Un.zero.cs).alloc (.cells Un.zero.cs 25)); have KB := Lib.hid (Bk.new2 w (.cells Un.zero.cs 25) 25 Un.zero.cs)
  have H1 := Lib.hid hs; have H2 := Lib.hid (Nat.le_trans (rnx_size st 1) hs)
  have H3 := Lib.hid (Nat.le_trans (rnx_size (rnx st 1) 1) H2.out)
  have H4 := Lib.hid (Nat.le_trans (rnx_size (rnx (rnx st 1) 1) 4) H3.out)
  have H5 := Lib.hid (Nat.le_trans (rnx_size (rnx (rnx (rnx st 1) 1) 4) 1) H4.out)
  have H6 := Lib.hid (Nat.le_trans (rtext_size_ (rnx (rnx (rnx (rnx st 1) 1) 4) 1)) H5.out)
  have H7 := Lib.hid (Nat.le_trans (rnx_size (Oct.rtext (rnx (rnx (rnx (rnx st 1) 1) 4) 1)).2 1) H6.out)
  clear h hs
  unfold Un.cs at *
  go_enter Try.func31, Try.ntmps31
  go_wp2_with fail
  refine (NX.out 1 st _ R0.out H1.out).mono ?_
  rintro e w1 ⟨rfl, r1, g1⟩
  have R1 := Lib.hid r1; have G1 := Lib.hid (only_trans G0.out g1); have KA1 := Lib.hid (KA.out.grown g1 (by have := HL.out; simp; omega)); have KB1 := Lib.hid (KB.out.grown g1 (by have := HL.out; simp; omega))
  clear r1 g1 R0 G0 KA KB
  go_wp2_with fail
  refine (NX.out 1 _ _ R1.out H2.out).mono ?_
  rintro e w2 ⟨rfl, r1, g1⟩
  have R2 := Lib.hid r1; have G2 := Lib.hid (only_trans G1.out g1); have KA2 := Lib.hid (KA1.out.grown g1 (by have := HL.out; simp; omega)); have KB2 := Lib.hid (KB1.out.grown g1 (by have := HL.out; simp; omega))
  clear r1 g1 R1 G1 KA1 KB1
  go_wp2_with fail
  refine (NX.out 4 _ _ R2.out H3.out).mono ?_
  rintro e w3 ⟨rfl, r1, g1⟩
  have R3 := Lib.hid r1; have G3 := Lib.hid (only_trans G2.out g1); have KA3 := Lib.hid (KA2.out.grown g1 (by have := HL.out; simp; omega)); have KB3 := Lib.hid (KB2.out.grown g1 (by have := HL.out; simp; omega))
  clear r1 g1 R2 G2 KA2 KB2
  go_wp2_with fail
  refine (NX.out 1 _ _ R3.out H4.out).mono ?_
  rintro e w4 ⟨rfl, r1, g1⟩
  have R4 := Lib.hid r1; have G4 := Lib.hid (only_trans G3.out g1); have KA4 := Lib.hid (KA3.out.grown g1 (by have := HL.out; simp; omega)); have KB4 := Lib.hid (KB3.out.grown g1 (by have := HL.out; simp; omega))
  clear r1 g1 R3 G3 KA3 KB3
  have z0 := KB4.out.cell 0; have z1 := KB4.out.cell 1; have z2 := KB4.out.cell 2; have z3 := KB4.out.cell 3
  have y0 := KB4.out.fz 0; have y1 := KB4.out.fz 1; have y2 := KB4.out.fz 2; have y3 := KB4.out.fz 3
  simp only [List.getElem?_toArray, List.getElem?_cons_zero, List.getElem?_cons_succ] at z0 z1 z2 z3
  go_wp2_with fail
  have ne : g ≠ w.heap.size + 1 := by have := HL.out; omega
  have ge : w.heap.size ≤ w.heap.size + 1 := Nat.le_succ _
  have R5 := Lib.hid ((((R4.out.far (p := ⟨w.heap.size + 1, 0, none⟩) ne (.int .i64 (rint st 1))).far (p := ⟨w.heap.size + 1, 1, none⟩) ne (.int .i64 (rint (rnx st 1) 1))).far (p := ⟨w.heap.size + 1, 2, none⟩) ne (.int .i64 (rint (rnx (rnx st 1) 1) 4))).far (p := ⟨w.heap.size + 1, 3, none⟩) ne (.int .i64 (rint (rnx (rnx (rnx st 1) 1) 4) 1)))
  have G5 := Lib.hid (only_set_new (only_set_new (only_set_new (only_set_new G4.out (p := ⟨w.heap.size + 1, 0, none⟩) ge (.int .i64 (rint st 1))) (p := ⟨w.heap.size + 1, 1, none⟩) ge (.int .i64 (rint (rnx st 1) 1))) (p := ⟨w.heap.size + 1, 2, none⟩) ge (.int .i64 (rint (rnx (rnx st 1) 1) 4))) (p := ⟨w.heap.size + 1, 3, none⟩) ge (.int .i64 (rint (rnx (rnx (rnx st 1) 1) 4) 1)))
  have nab : w.heap.size ≠ w.heap.size + 1 := by omega
  have KA5 := Lib.hid ((((KA4.out.far (p := ⟨w.heap.size + 1, 0, none⟩) nab (.int .i64 (rint st 1))).far (p := ⟨w.heap.size + 1, 1, none⟩) nab (.int .i64 (rint (rnx st 1) 1))).far (p := ⟨w.heap.size + 1, 2, none⟩) nab (.int .i64 (rint (rnx (rnx st 1) 1) 4))).far (p := ⟨w.heap.size + 1, 3, none⟩) nab (.int .i64 (rint (rnx (rnx (rnx st 1) 1) 4) 1)))
  have KB5 := Lib.hid (show Bk ((((w4.setCell ⟨w.heap.size + 1, 0, none⟩ (.int .i64 (rint st 1))).setCell ⟨w.heap.size + 1, 1, none⟩ (.int .i64 (rint (rnx st 1) 1))).setCell ⟨w.heap.size + 1, 2, none⟩ (.int .i64 (rint (rnx (rnx st 1) 1) 4))).setCell ⟨w.heap.size + 1, 3, none⟩ (.int .i64 (rint (rnx (rnx (rnx st 1) 1) 4) 1))) (w.heap.size + 1) 25
    #[.int .i64 (rint st 1), .int .i64 (rint (rnx st 1) 1), .int .i64 (rint (rnx (rnx st 1) 1) 4), .int .i64 (rint (rnx (rnx (rnx st 1) 1) 4) 1), .string Un.zero.key, .int .i64 Un.zero.bs, .string Un.zero.bd] from (((KB4.out.set 0 _).set 1 _).set 2 _).set 3 _)
  clear z0 z1 z2 z3 y0 y1 y2 y3 R4 G4 KA4 KB4
  generalize ((((w4.setCell ⟨w.heap.size + 1, 0, none⟩ (.int .i64 (rint st 1))).setCell ⟨w.heap.size + 1, 1, none⟩ (.int .i64 (rint (rnx st 1) 1))).setCell ⟨w.heap.size + 1, 2, none⟩ (.int .i64 (rint (rnx (rnx st 1) 1) 4))).setCell ⟨w.heap.size + 1, 3, none⟩ (.int .i64 (rint (rnx (rnx (rnx st 1) 1) 4) 1))) = w5 at *
  refine (TX.out _ _ R5.out H5.out).mono ?_
  rintro e w6 ⟨rfl, r1, g1⟩
  have R6 := Lib.hid r1; have G6 := Lib.hid (only_trans G5.out g1); have KA6 := Lib.hid (KA5.out.grown g1 (by have := HL.out; simp; omega)); have KB6 := Lib.hid (KB5.out.grown g1 (by have := HL.out; simp; omega))
  clear r1 g1 R5 G5 KA5 KB5
  have z4 := KB6.out.cell 4
  have y4 := KB6.out.fz 4
  simp only [List.getElem?_toArray, List.getElem?_cons_zero, List.getElem?_cons_succ] at z4
  go_wp2_with fail
  have R7 := Lib.hid (R6.out.far (p := ⟨w.heap.size + 1, 4, none⟩) ne (.string (Oct.rtext (rnx (rnx (rnx (rnx st 1) 1) 4) 1)).1)); have G7 := Lib.hid (only_set_new G6.out (p := ⟨w.heap.size + 1, 4, none⟩) ge (.string (Oct.rtext (rnx (rnx (rnx (rnx st 1) 1) 4) 1)).1)); have KA7 := Lib.hid (KA6.out.far (p := ⟨w.heap.size + 1, 4, none⟩) nab (.string (Oct.rtext (rnx (rnx (rnx (rnx st 1) 1) 4) 1)).1)); have KB7 := Lib.hid (KB6.out.set 4 (.string (Oct.rtext (rnx (rnx (rnx (rnx st 1) 1) 4) 1)).1))
  clear z4 y4 R6 G6 KA6 KB6
  generalize (w6.setCell ⟨w.heap.size + 1, 4, none⟩ (.string (Oct.rtext (rnx (rnx (rnx (rnx st 1) 1) 4) 1)).1)) = w7 at *
  refine (NX.out 1 _ _ R7.out H6.out).mono ?_
  rintro e w8 ⟨rfl, r1, g1⟩
  have R8 := Lib.hid r1; have G8 := Lib.hid (only_trans G7.out g1); have KA8 := Lib.hid (KA7.out.grown g1 (by have := HL.out; simp; omega)); have KB8 := Lib.hid (KB7.out.grown g1 (by have := HL.out; simp; omega))
  clear r1 g1 R7 G7 KA7 KB7
  have z5 : w8.cell? ⟨w.heap.size + 1, 5, none⟩ = some (.int .i64 Un.zero.bs) := KB8.out.cell 5
  have y5 := KB8.out.fz 5
  go_wp2_with fail
  have R9 := Lib.hid (R8.out.far (p := ⟨w.heap.size + 1, 5, none⟩) ne (.int .i64 (rint (Oct.rtext (rnx (rnx (rnx (rnx st 1) 1) 4) 1)).2 1))); have G9 := Lib.hid (only_set_new G8.out (p := ⟨w.heap.size + 1, 5, none⟩) ge (.int .i64 (rint (Oct.rtext (rnx (rnx (rnx (rnx st 1) 1) 4) 1)).2 1))); have KA9 := Lib.hid (KA8.out.far (p := ⟨w.heap.size + 1, 5, none⟩) nab (.int .i64 (rint (Oct.rtext (rnx (rnx (rnx (rnx st 1) 1) 4) 1)).2 1))); have KB9 := Lib.hid (KB8.out.set 5 (.int .i64 (rint (Oct.rtext (rnx (rnx (rnx (rnx st 1) 1) 4) 1)).2 1)))
  clear z5 y5 R8 G8 KA8 KB8
  generalize (w8.setCell ⟨w.heap.size + 1, 5, none⟩ (.int .i64 (rint (Oct.rtext (rnx (rnx (rnx (rnx st 1) 1) 4) 1)).2 1))) = w9 at *
  refine (TX.out _ _ R9.out H7.out).mono ?_
  rintro e w10 ⟨rfl, r1, g1⟩
  have R10 := Lib.hid r1; have G10 := Lib.hid (only_trans G9.out g1); have KA10 := Lib.hid (KA9.out.grown g1 (by have := HL.out; simp; omega)); have KB10 := Lib.hid (KB9.out.grown g1 (by have := HL.out; simp; omega))
  clear r1 g1 R9 G9 KA9 KB9
  have z6 : w10.cell? ⟨w.heap.size + 1, 6, none⟩ = some (.string Un.zero.bd) := KB10.out.cell 6
  have y6 := KB10.out.fz 6
  have R11 := Lib.hid (R10.out.far (p := ⟨w.heap.size + 1, 6, none⟩) ne (.string (Oct.rtext (rnx (Oct.rtext (rnx (rnx (rnx (rnx st 1) 1) 4) 1)).2 1)).1)); have G11 := Lib.hid (only_set_new G10.out (p := ⟨w.heap.size + 1, 6, none⟩) ge (.string (Oct.rtext (rnx (Oct.rtext (rnx (rnx (rnx (rnx st 1) 1) 4) 1)).2 1)).1)); have KA11 := Lib.hid (KA10.out.far (p := ⟨w.heap.size + 1, 6, none⟩) nab (.string (Oct.rtext (rnx (Oct.rtext (rnx (rnx (rnx (rnx st 1) 1) 4) 1)).2 1)).1))
  have KB11 := Lib.hid (show Bk (w10.setCell ⟨w.heap.size + 1, 6, none⟩ (.string (Oct.rtext (rnx (Oct.rtext (rnx (rnx (rnx (rnx st 1) 1) 4) 1)).2 1)).1)) (w.heap.size + 1) 25
    #[.int .i64 (rint st 1), .int .i64 (rint (rnx st 1) 1), .int .i64 (rint (rnx (rnx st 1) 1) 4), .int .i64 (rint (rnx (rnx (rnx st 1) 1) 4) 1), .string (Oct.rtext (rnx (rnx (rnx (rnx st 1) 1) 4) 1)).1, .int .i64 (rint (Oct.rtext (rnx (rnx (rnx (rnx st 1) 1) 4) 1)).2 1), .string (Oct.rtext (rnx (Oct.rtext (rnx (rnx (rnx (rnx st 1) 1) 4) 1)).2 1)).1] from KB10.out.set 6 _)
  have HF := Lib.hid (show (rundo st) = (⟨rint st 1, rint (rnx st 1) 1, rint (rnx (rnx st 1) 1) 4, rint (rnx (rnx (rnx st 1) 1) 4) 1, (Oct.rtext (rnx (rnx (rnx (rnx st 1) 1) 4) 1)).1, rint (Oct.rtext (rnx (rnx (rnx (rnx st 1) 1) 4) 1)).2 1, (Oct.rtext (rnx (Oct.rtext (rnx (rnx (rnx (rnx st 1) 1) 4) 1)).2 1)).1⟩, (Oct.rtext (rnx (Oct.rtext (rnx (rnx (rnx (rnx st 1) 1) 4) 1)).2 1)).2) from rfl)
  clear RU KB10 KA10 R10 G10 NX TX H1 H2 H3 H4 H5 H6 H7
  generalize rint st 1 = a0 at *
  generalize rint (rnx st 1) 1 = a1 at *
  generalize rint (rnx (rnx st 1) 1) 4 = a2 at *
  generalize rint (rnx (rnx (rnx st 1) 1) 4) 1 = a3 at *
  generalize rint (Oct.rtext (rnx (rnx (rnx (rnx st 1) 1) 4) 1)).2 1 = a5 at *
  generalize Oct.rtext (rnx (Oct.rtext (rnx (rnx (rnx (rnx st 1) 1) 4) 1)).2 1) = q6 at *
  generalize Oct.rtext (rnx (rnx (rnx (rnx st 1) 1) 4) 1) = q4 at *
  generalize hL : (#[.int .i64 a0, .int .i64 a1, .int .i64 a2, .int .i64 a3, .string q4.1, .int .i64 a5, .string q6.1] : Array Value) = L at *
  have hL7 : L.toList.length = 7 := by rw [← hL]; rfl
  have hL1 : L.all (·.oneCell') = true := by rw [← hL]; simp [Value.oneCell']
  have hLs : L.size = 7 := by rw [← hL]; rfl
  have HLL := Lib.hid hL
  clear hL
  go_wp2_with (first
    | (refine wpList_load_part 25 _ rfl (by first | rfl | kernel_rfl) (w.heap.size + 1) 0 L rfl (undo_load KB11.out hL7) ?_)
    | (refine wpList_store_row rfl 25 _ _ rfl w.heap.size L rfl rfl 25 _ KA11.out (by rw [hLs]; kernel_rfl) (by rw [hLs]; rfl) hL1 ?_))
  refine bodyPost_ret (results_cell_row rfl _ _ w.heap.size 25 L (0, 0) _ rfl (setRow_heap _ _ _ _ _ _ KA11.out) Try.underlying25 rfl (by rw [hLs]; kernel_rfl)) rfl ?_
  refine ⟨?_, ?_, ?_⟩
  · rw [HF.out, ← HLL.out]
  · rw [HF.out]
    exact (setRow_other _ _ _ _ (by have := HL.out; omega)).trans R11.out
  · exact ⟨G11.out.os, G11.out.tape, G11.out.output, by have := G11.out.size; simpa [World.setRow] using this, fun k hk hne => (setRow_other _ _ _ _ (by omega)).trans (G11.out.block k hk hne)⟩
end Go.Proofs.Ytggabnmfjooejaa
