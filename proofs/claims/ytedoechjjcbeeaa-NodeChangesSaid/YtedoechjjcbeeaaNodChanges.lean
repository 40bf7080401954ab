/- The walk of NodeChanges. -/
import Derived.Test.YtedoechjjcbeeaaNodRSplit
import Derived.Test.YtedoechjjcbeeaaNodRTake
import Derived.Test.YtedoechjjcbeeaaNodAwake
import Derived.Test.YtedoechjjcbeeaaPgRead
set_option linter.unusedVariables false
set_option linter.unusedSimpArgs false
namespace Go.Proofs.Ytedoechjjcbeeaa
open Go.RowKit

set_option maxRecDepth 100000 in
set_option maxHeartbeats 4000000 in
theorem changes_core (p : Pg) (c : Ce) (i : Int) (w : World) (hs : Sz p.c) (hc : c.d.size ≤ maxLen) (hi1 : -9223372036854775808 ≤ i) (hi2 : i ≤ 9223372036854775807) :
    Calls Try.prog 5 #[p.v, c.v, .int .i64 i] w fun e w' => e = .returned (.bool true) ∧ Below w.heap.size w w' := by
  have CA := Lib.hid awake_any
  have P1 := Lib.hid (fun w => nput_any p c w hs hc); have P2 := Lib.hid (fun w => rput_any p c w hs hc)
  have T1 := Lib.hid (fun w => take_any p i w); have T2 := Lib.hid (fun w => rtake_any p i w)
  have S1 := Lib.hid (fun w => split_any p w hs); have S2 := Lib.hid (fun w => rsplit_any p w hs)
  generalize putP p c = PP at *
  generalize putE p c = pe at *
  generalize takeP p i = TT at *
  generalize takeE p i = te at *
  generalize splitLo p = LL at *
  generalize splitHi p = HH at *
  generalize splitK p = sk at *
  generalize splitE p = se at *
  clear hs hc
  have q1 := fun w => page_eql PP PP w; have q2 := fun w => page_eql TT TT w; have q3 := fun w => page_eql LL LL w; have q4 := fun w => page_eql HH HH w
  rw [pgB_self] at q1 q2 q3 q4
  have Q1 := Lib.hid q1; have Q2 := Lib.hid q2; have Q3 := Lib.hid q3; have Q4 := Lib.hid q4
  clear q1 q2 q3 q4
  unfold Pg.v Ce.v at *
  obtain ⟨st, d⟩ := c
  dsimp only at *
  go_enter Try.func5, Try.ntmps5
  go_wp2_with fail
  have K0 := Lib.hid ((Bk.new w 40 p.cs).alloc (.cells #[.int .i64 st, .string d] 23))
  have C0 := Lib.hid (Bk.new2 w (.cells p.cs 40) 23 #[.int .i64 st, .string d])
  have B0 := Lib.hid (((Below.refl w.heap.size w).alloc (Nat.le_refl _) (.cells p.cs 40)).alloc (by simp) (.cells #[.int .i64 st, .string d] 23))
  refine (CA.out _).mono ?_
  rintro e w1 ⟨rfl, hb⟩
  have K1 := Lib.hid (K0.out.kept hb); have C1 := Lib.hid (C0.out.kept hb)
  have B1 := Lib.hid (below_then B0.out hb B0.out.size)
  clear hb K0 C0 B0 CA
  obtain ⟨y0, y1⟩ := (show w1.cell? ⟨w.heap.size + 1, 0, none⟩ = some (.int .i64 st) ∧ w1.cell? ⟨w.heap.size + 1, 1, none⟩ = some (.string d) from ⟨C1.out.cell 0, C1.out.cell 1⟩)
  have tokL : True := trivial
  go_wp2_with (have _t := tokL; refine load_page rfl (.tmp 3) rfl w.heap.size p rfl K1.out ?_; clear tokL _t)
  refine (P1.out _).mono ?_
  rintro e v1 ⟨rfl, hb⟩
  clear y0 y1
  have b2 := below_then B1.out hb B1.out.size
  have K2 := Lib.hid ((K1.out.kept hb).alloc (.cells PP.cs 40)); have C2 := Lib.hid ((C1.out.kept hb).alloc (.cells PP.cs 40))
  have M2_0 := Lib.hid (show Bk (v1.alloc (.cells PP.cs 40)) v1.heap.size 40 PP.cs from Bk.new _ _ _)
  have B2 := Lib.hid (b2.alloc b2.size (.cells PP.cs 40))
  clear hb b2 P1 K1 C1 B1 
  have tokS : True := trivial
  go_wp2_with (first | (have _t := tokS; refine store_page_new rfl (.tmp 7) (.tmp 29) rfl PP rfl rfl ?_; clear tokS _t; generalize (v1.alloc (.cells PP.cs 40)) = w2 at K2 C2 B2 M2_0 ⊢; generalize v1.heap.size = G0 at K2 C2 B2 M2_0 ⊢; have tokL : True := trivial; obtain ⟨y0, y1⟩ := (show w2.cell? ⟨w.heap.size + 1, 0, none⟩ = some (.int .i64 st) ∧ w2.cell? ⟨w.heap.size + 1, 1, none⟩ = some (.string d) from ⟨C2.out.cell 0, C2.out.cell 1⟩)) | (have _t := tokL; refine load_page rfl (.tmp 3) rfl w.heap.size p rfl K2.out ?_; clear tokL _t))
  refine (P2.out _).mono ?_
  rintro e v2 ⟨rfl, hb⟩
  clear y0 y1
  have b3 := below_then B2.out hb B2.out.size
  have K3 := Lib.hid ((K2.out.kept hb).alloc (.cells PP.cs 40)); have C3 := Lib.hid ((C2.out.kept hb).alloc (.cells PP.cs 40))
  have M3_0 := Lib.hid ((M2_0.out.kept hb).alloc (.cells PP.cs 40))
  have M3_1 := Lib.hid (show Bk (v2.alloc (.cells PP.cs 40)) v2.heap.size 40 PP.cs from Bk.new _ _ _)
  have B3 := Lib.hid (b3.alloc b3.size (.cells PP.cs 40))
  clear hb b3 P2 K2 C2 B2 M2_0
  have tokS : True := trivial
  go_wp2_with (first | (have _t := tokS; refine store_page_new rfl (.tmp 9) (.tmp 35) rfl PP rfl rfl ?_; clear tokS _t; generalize (v2.alloc (.cells PP.cs 40)) = w3 at K3 C3 B3 M3_0 M3_1 ⊢; generalize v2.heap.size = G1 at K3 C3 B3 M3_0 M3_1 ⊢; have tokL : True := trivial) | (have _t := tokL; refine load_page rfl (.tmp 3) rfl w.heap.size p rfl K3.out ?_; clear tokL _t))
  refine (T1.out _).mono ?_
  rintro e v3 ⟨rfl, hb⟩
  have b4 := below_then B3.out hb B3.out.size
  have K4 := Lib.hid ((K3.out.kept hb).alloc (.cells TT.cs 40)); have C4 := Lib.hid ((C3.out.kept hb).alloc (.cells TT.cs 40))
  have M4_0 := Lib.hid ((M3_0.out.kept hb).alloc (.cells TT.cs 40))
  have M4_1 := Lib.hid ((M3_1.out.kept hb).alloc (.cells TT.cs 40))
  have M4_2 := Lib.hid (show Bk (v3.alloc (.cells TT.cs 40)) v3.heap.size 40 TT.cs from Bk.new _ _ _)
  have B4 := Lib.hid (b4.alloc b4.size (.cells TT.cs 40))
  clear hb b4 T1 K3 C3 B3 M3_0 M3_1
  have tokS : True := trivial
  go_wp2_with (first | (have _t := tokS; refine store_page_new rfl (.tmp 11) (.tmp 41) rfl TT rfl rfl ?_; clear tokS _t; generalize (v3.alloc (.cells TT.cs 40)) = w4 at K4 C4 B4 M4_0 M4_1 M4_2 ⊢; generalize v3.heap.size = G2 at K4 C4 B4 M4_0 M4_1 M4_2 ⊢; have tokL : True := trivial) | (have _t := tokL; refine load_page rfl (.tmp 3) rfl w.heap.size p rfl K4.out ?_; clear tokL _t))
  refine (T2.out _).mono ?_
  rintro e v4 ⟨rfl, hb⟩
  have b5 := below_then B4.out hb B4.out.size
  have K5 := Lib.hid ((K4.out.kept hb).alloc (.cells TT.cs 40)); have C5 := Lib.hid ((C4.out.kept hb).alloc (.cells TT.cs 40))
  have M5_0 := Lib.hid ((M4_0.out.kept hb).alloc (.cells TT.cs 40))
  have M5_1 := Lib.hid ((M4_1.out.kept hb).alloc (.cells TT.cs 40))
  have M5_2 := Lib.hid ((M4_2.out.kept hb).alloc (.cells TT.cs 40))
  have M5_3 := Lib.hid (show Bk (v4.alloc (.cells TT.cs 40)) v4.heap.size 40 TT.cs from Bk.new _ _ _)
  have B5 := Lib.hid (b5.alloc b5.size (.cells TT.cs 40))
  clear hb b5 T2 K4 C4 B4 M4_0 M4_1 M4_2
  have tokS : True := trivial
  go_wp2_with (first | (have _t := tokS; refine store_page_new rfl (.tmp 13) (.tmp 47) rfl TT rfl rfl ?_; clear tokS _t; generalize (v4.alloc (.cells TT.cs 40)) = w5 at K5 C5 B5 M5_0 M5_1 M5_2 M5_3 ⊢; generalize v4.heap.size = G3 at K5 C5 B5 M5_0 M5_1 M5_2 M5_3 ⊢; have tokL : True := trivial) | (have _t := tokL; refine load_page rfl (.tmp 3) rfl w.heap.size p rfl K5.out ?_; clear tokL _t))
  refine (S1.out _).mono ?_
  rintro e v5 ⟨rfl, hb⟩
  have b6 := below_then B5.out hb B5.out.size
  have Za := Lib.hid (show Bk ((v5.alloc (.cells Pg.zero.cs 40)).alloc (.cells Pg.zero.cs 40)) v5.heap.size 40 Pg.zero.cs from (Bk.new _ _ _).alloc _)
  have Zb := Lib.hid (show Bk (((v5.alloc (.cells Pg.zero.cs 40)).alloc (.cells Pg.zero.cs 40)).setRow v5.heap.size LL.cs) (v5.heap.size + 1) 40 Pg.zero.cs from row_far (Bk.new2 _ _ _ _) (by omega))
  have hgt := (K5.out.kept hb).lt
  have tokA : True := trivial
  go_wp2_with (first | (have _t := tokA; refine store_page rfl (.tmp 15) (.tmp 52) rfl v5.heap.size LL Pg.zero rfl rfl Za.out ?_; clear tokA _t; have tokB : True := trivial) | (have _t := tokB; refine store_page rfl (.tmp 16) (.tmp 53) rfl (v5.heap.size + 1) HH Pg.zero rfl rfl Zb.out ?_; clear tokB _t; generalize hW : World.setRow _ (v5.heap.size + 1) HH.cs = w6; have tokC : True := trivial; have K6 : Hid (Bk w6 w.heap.size 40 p.cs) := Lib.hid (by rw [← hW]; exact row_far (row_far (((K5.out.kept hb).alloc (.cells Pg.zero.cs 40)).alloc (.cells Pg.zero.cs 40)) (by have := (K5.out.kept hb).lt; omega)) (by have := (K5.out.kept hb).lt; omega)); have C6 : Hid (Bk w6 (w.heap.size + 1) 23 #[.int .i64 st, .string d]) := Lib.hid (by rw [← hW]; exact row_far (row_far (((C5.out.kept hb).alloc (.cells Pg.zero.cs 40)).alloc (.cells Pg.zero.cs 40)) (by have := (C5.out.kept hb).lt; omega)) (by have := (C5.out.kept hb).lt; omega)); have M6_0 : Hid (Bk w6 G0 40 PP.cs) := Lib.hid (by rw [← hW]; exact row_far (row_far (((M5_0.out.kept hb).alloc (.cells Pg.zero.cs 40)).alloc (.cells Pg.zero.cs 40)) (by have := (M5_0.out.kept hb).lt; omega)) (by have := (M5_0.out.kept hb).lt; omega)); have M6_1 : Hid (Bk w6 G1 40 PP.cs) := Lib.hid (by rw [← hW]; exact row_far (row_far (((M5_1.out.kept hb).alloc (.cells Pg.zero.cs 40)).alloc (.cells Pg.zero.cs 40)) (by have := (M5_1.out.kept hb).lt; omega)) (by have := (M5_1.out.kept hb).lt; omega)); have M6_2 : Hid (Bk w6 G2 40 TT.cs) := Lib.hid (by rw [← hW]; exact row_far (row_far (((M5_2.out.kept hb).alloc (.cells Pg.zero.cs 40)).alloc (.cells Pg.zero.cs 40)) (by have := (M5_2.out.kept hb).lt; omega)) (by have := (M5_2.out.kept hb).lt; omega)); have M6_3 : Hid (Bk w6 G3 40 TT.cs) := Lib.hid (by rw [← hW]; exact row_far (row_far (((M5_3.out.kept hb).alloc (.cells Pg.zero.cs 40)).alloc (.cells Pg.zero.cs 40)) (by have := (M5_3.out.kept hb).lt; omega)) (by have := (M5_3.out.kept hb).lt; omega)); have M6_4 : Hid (Bk w6 v5.heap.size 40 LL.cs) := Lib.hid (by rw [← hW]; exact row_far (row_bk (q := Pg.zero) Za.out) (by omega)); have M6_5 : Hid (Bk w6 (v5.heap.size + 1) 40 HH.cs) := Lib.hid (by rw [← hW]; exact row_bk (q := Pg.zero) Zb.out); have B6 : Hid (Below w.heap.size w w6) := Lib.hid (by rw [← hW]; exact below_setRow (below_setRow ((b6.alloc b6.size (.cells Pg.zero.cs 40)).alloc (by have := b6.size; simp; omega) (.cells Pg.zero.cs 40)) b6.size _) (by have := b6.size; omega) _); clear hW hb b6 hgt Za Zb S1 K5 C5 B5 M5_0 M5_1 M5_2 M5_3; generalize v5.heap.size = G4 at *) | (have _t := tokC; refine load_page rfl (.tmp 3) rfl w.heap.size p rfl K6.out ?_; clear tokC _t))
  have tokL : True := trivial
  go_wp2_with (have _t := tokL; refine load_page rfl (.tmp 3) rfl w.heap.size p rfl K6.out ?_; clear tokL _t)
  refine (S2.out _).mono ?_
  rintro e v6 ⟨rfl, hb⟩
  have b7 := below_then B6.out hb B6.out.size
  have Za := Lib.hid (show Bk ((v6.alloc (.cells Pg.zero.cs 40)).alloc (.cells Pg.zero.cs 40)) v6.heap.size 40 Pg.zero.cs from (Bk.new _ _ _).alloc _)
  have Zb := Lib.hid (show Bk (((v6.alloc (.cells Pg.zero.cs 40)).alloc (.cells Pg.zero.cs 40)).setRow v6.heap.size LL.cs) (v6.heap.size + 1) 40 Pg.zero.cs from row_far (Bk.new2 _ _ _ _) (by omega))
  have hgt := (K6.out.kept hb).lt
  have tokA : True := trivial
  go_wp2_with (first | (have _t := tokA; refine store_page rfl (.tmp 19) (.tmp 59) rfl v6.heap.size LL Pg.zero rfl rfl Za.out ?_; clear tokA _t; have tokB : True := trivial) | (have _t := tokB; refine store_page rfl (.tmp 20) (.tmp 60) rfl (v6.heap.size + 1) HH Pg.zero rfl rfl Zb.out ?_; clear tokB _t; generalize hW : World.setRow _ (v6.heap.size + 1) HH.cs = w7; have tokC : True := trivial; have K7 : Hid (Bk w7 w.heap.size 40 p.cs) := Lib.hid (by rw [← hW]; exact row_far (row_far (((K6.out.kept hb).alloc (.cells Pg.zero.cs 40)).alloc (.cells Pg.zero.cs 40)) (by have := (K6.out.kept hb).lt; omega)) (by have := (K6.out.kept hb).lt; omega)); have C7 : Hid (Bk w7 (w.heap.size + 1) 23 #[.int .i64 st, .string d]) := Lib.hid (by rw [← hW]; exact row_far (row_far (((C6.out.kept hb).alloc (.cells Pg.zero.cs 40)).alloc (.cells Pg.zero.cs 40)) (by have := (C6.out.kept hb).lt; omega)) (by have := (C6.out.kept hb).lt; omega)); have M7_0 : Hid (Bk w7 G0 40 PP.cs) := Lib.hid (by rw [← hW]; exact row_far (row_far (((M6_0.out.kept hb).alloc (.cells Pg.zero.cs 40)).alloc (.cells Pg.zero.cs 40)) (by have := (M6_0.out.kept hb).lt; omega)) (by have := (M6_0.out.kept hb).lt; omega)); have M7_1 : Hid (Bk w7 G1 40 PP.cs) := Lib.hid (by rw [← hW]; exact row_far (row_far (((M6_1.out.kept hb).alloc (.cells Pg.zero.cs 40)).alloc (.cells Pg.zero.cs 40)) (by have := (M6_1.out.kept hb).lt; omega)) (by have := (M6_1.out.kept hb).lt; omega)); have M7_2 : Hid (Bk w7 G2 40 TT.cs) := Lib.hid (by rw [← hW]; exact row_far (row_far (((M6_2.out.kept hb).alloc (.cells Pg.zero.cs 40)).alloc (.cells Pg.zero.cs 40)) (by have := (M6_2.out.kept hb).lt; omega)) (by have := (M6_2.out.kept hb).lt; omega)); have M7_3 : Hid (Bk w7 G3 40 TT.cs) := Lib.hid (by rw [← hW]; exact row_far (row_far (((M6_3.out.kept hb).alloc (.cells Pg.zero.cs 40)).alloc (.cells Pg.zero.cs 40)) (by have := (M6_3.out.kept hb).lt; omega)) (by have := (M6_3.out.kept hb).lt; omega)); have M7_4 : Hid (Bk w7 G4 40 LL.cs) := Lib.hid (by rw [← hW]; exact row_far (row_far (((M6_4.out.kept hb).alloc (.cells Pg.zero.cs 40)).alloc (.cells Pg.zero.cs 40)) (by have := (M6_4.out.kept hb).lt; omega)) (by have := (M6_4.out.kept hb).lt; omega)); have M7_5 : Hid (Bk w7 (G4 + 1) 40 HH.cs) := Lib.hid (by rw [← hW]; exact row_far (row_far (((M6_5.out.kept hb).alloc (.cells Pg.zero.cs 40)).alloc (.cells Pg.zero.cs 40)) (by have := (M6_5.out.kept hb).lt; omega)) (by have := (M6_5.out.kept hb).lt; omega)); have M7_6 : Hid (Bk w7 v6.heap.size 40 LL.cs) := Lib.hid (by rw [← hW]; exact row_far (row_bk (q := Pg.zero) Za.out) (by omega)); have M7_7 : Hid (Bk w7 (v6.heap.size + 1) 40 HH.cs) := Lib.hid (by rw [← hW]; exact row_bk (q := Pg.zero) Zb.out); have B7 : Hid (Below w.heap.size w w7) := Lib.hid (by rw [← hW]; exact below_setRow (below_setRow ((b7.alloc b7.size (.cells Pg.zero.cs 40)).alloc (by have := b7.size; simp; omega) (.cells Pg.zero.cs 40)) b7.size _) (by have := b7.size; omega) _); clear hW hb b7 hgt Za Zb S2 K6 C6 B6 M6_0 M6_1 M6_2 M6_3 M6_4 M6_5; generalize v6.heap.size = G6 at *) | (have _t := tokC; refine load_page rfl (.tmp 7) rfl G0 PP rfl M7_0.out ?_; clear tokC _t; have tkx1 : True := trivial) | (have _t := tkx1; refine load_page rfl (.tmp 9) rfl G1 PP rfl M7_1.out ?_; clear tkx1 _t; have tkx2 : True := trivial; have qq1 := Q1.out) | (have _t := tkx2; refine load_page_if (.tmp 11) rfl (by first | rfl | kernel_rfl) G2 TT rfl M7_2.out ?_; clear tkx2 _t; have tkx3 : True := trivial) | (have _t := tkx3; refine load_page_if (.tmp 13) rfl (by first | rfl | kernel_rfl) G3 TT rfl M7_3.out ?_; clear tkx3 _t; have tkx4 : True := trivial; have qq3 := Q2.out) | (have _t := tkx4; refine load_page_if (.tmp 15) rfl (by first | rfl | kernel_rfl) G4 LL rfl M7_4.out ?_; clear tkx4 _t; have tkx5 : True := trivial) | (have _t := tkx5; refine load_page_if (.tmp 19) rfl (by first | rfl | kernel_rfl) G6 LL rfl M7_6.out ?_; clear tkx5 _t; have tkx6 : True := trivial; have qq5 := Q3.out) | (have _t := tkx6; refine load_page_if (.tmp 16) rfl (by first | rfl | kernel_rfl) (G4 + 1) HH rfl M7_5.out ?_; clear tkx6 _t; have tkx7 : True := trivial) | (have _t := tkx7; refine load_page_if (.tmp 20) rfl (by first | rfl | kernel_rfl) (G6 + 1) HH rfl M7_7.out ?_; clear tkx7 _t; have tkx8 : True := trivial; have qq7 := Q4.out))
  go_ret
  exact ⟨rfl, B7.out⟩
theorem walk_NodeChanges (v : Value) (p : Pg) (u : Value) (c : Ce) (i : Int) (w : World) (h : IsPage v p) (hc : IsCell u c) (h1 : -9223372036854775808 ≤ i) (h2 : i ≤ 9223372036854775807) :
    Calls Try.prog 5 #[v, u, .int .i64 i] w fun e w' => e = .returned (.bool true) ∧ Below w.heap.size w w' := by
  rw [h.val, hc.val]
  exact changes_core p c i w (fun i hi => (h.cells i hi).2) hc.sz h1 h2
end Go.Proofs.Ytedoechjjcbeeaa
