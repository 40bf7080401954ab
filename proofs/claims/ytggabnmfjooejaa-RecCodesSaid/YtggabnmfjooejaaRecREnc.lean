/- The walk of the reference's Encode of a record. -/
import Derived.Test.YtggabnmfjooejaaRecRRight
import Derived.Test.YtggabnmfjooejaaPgREnc
set_option linter.unusedVariables false
set_option linter.unusedSimpArgs false
namespace Go.Proofs.Ytggabnmfjooejaa
open Go.RowKit Go.BigFrame

theorem rput8 (n : Int) (w : World) (h0 : 0 ≤ n) (h : n ≤ 9223372036854775807) :
    Calls Try.prog 19 #[.int .i64 n, .int .i64 8] w fun e w' => e = .returned (.string (Oct.str n.toNat 8)) ∧ Below w.heap.size w w' := by
  obtain ⟨m, rfl⟩ := Int.eq_ofNat_of_zero_le h0
  exact put_any m 8 w (by omega) (by omega) (by omega) (by omega)

set_option maxRecDepth 100000 in
set_option maxHeartbeats 4000000 in
theorem rencode6_good (r : Rc) (vi vl : Value) (w : World) (h : r.ok) (hI : ImAt w w.heap.size vi r.ni r.im) (hL : AlAt w w.heap.size vl r.nl r.al) :
    Calls Try.prog 10 #[.agg (r.cs vi vl)] w fun e w' => e = .returned (.tuple #[.string r.bytes, .int .i64 0]) ∧ Below w.heap.size w w' := by
  have B0 := Lib.hid ((Below.refl w.heap.size w).alloc (Nat.le_refl _) (.cells (r.cs vi vl) 29))
  have CC := Lib.hid (rright6_any r vi vl (w.alloc (.cells (r.cs vi vl) 29)) ((hI.below B0.out (Nat.le_refl _)).mono B0.out.size) ((hL.below B0.out (Nat.le_refl _)).mono B0.out.size))
  have K0 := Lib.hid (Bk.new w 29 (r.cs vi vl))
  have HH := Lib.hid h
  obtain ⟨⟨k1, k2, kx, kf⟩, ⟨kp, kn, ku⟩, ⟨ki, kl⟩, him, hal⟩ := h
  obtain ⟨u1, u2, u3, u4, u5, u7, u8, kk, u10, u11, kd⟩ := id ku
  have C1 := Lib.hid (fun w => rput1 r.k w (by omega) (by omega)); have C2 := Lib.hid (fun w => rput4 r.x w kx.1 (by have := kx.2; omega)); have C3 := Lib.hid (fun w => rput8 r.pv w kp.1 (by have := kp.2; omega)); have C4 := Lib.hid (fun w => rput8 r.nx w kn.1 (by have := kn.2; omega)); have C5 := Lib.hid (fun w => rput4 r.fr w kf.1 (by have := kf.2; omega))
  have D1 := Lib.hid (fun w => rput1 r.u.k w u1 (by omega)); have D2 := Lib.hid (fun w => rput1 r.u.st w u3 (by omega)); have D3 := Lib.hid (fun w => rput4 r.u.pg w u5.1 (by have := u5.2; omega)); have D4 := Lib.hid (fun w => rput1 r.u.sl w u7 (by omega)); have D5 := Lib.hid (fun w => rtext6_any r.u.key w (by omega)); have D6 := Lib.hid (fun w => rput1 r.u.bs w u10 (by omega)); have D7 := Lib.hid (fun w => rtext6_any r.u.bd w (by omega))
  have cn := fun w => rput1 (r.ni : Int) w (by omega) (by omega)
  have cm := fun w => rput1 (r.nl : Int) w (by omega) (by omega)
  rw [Int.toNat_natCast] at cn cm
  have CN := Lib.hid cn; have CM := Lib.hid cm
  have S1 := Lib.hid (Rc.upI_size him); have S2 := Lib.hid (Rc.upL_size him)
  have U0 := Lib.hid (show r.upI 0 = (Oct.str r.k.toNat 1 ++ Oct.str r.x.toNat 4 ++ Oct.str r.pv.toNat 8 ++ Oct.str r.nx.toNat 8 ++ Oct.str r.fr.toNat 4) ++ (Oct.str r.u.k.toNat 1 ++ Oct.str r.u.st.toNat 1 ++ Oct.str r.u.pg.toNat 4 ++ Oct.str r.u.sl.toNat 1 ++ Oct.text r.u.key) ++ (Oct.str r.u.bs.toNat 1 ++ Oct.text r.u.bd ++ Oct.str r.ni 1) from by
    unfold Rc.upI Rc.head Un.bytes
    simp only [ByteArray.append_assoc]); have L0 := Lib.hid (show r.upL 0 = r.upI r.ni ++ Oct.str r.nl 1 from rfl)
  have US := Lib.hid (fun j => show r.upI (j + 1) = r.upI j ++ (Oct.str (r.im j).id.toNat 4 ++ (r.im j).p.bytes) from rfl); have LS := Lib.hid (fun j => show r.upL (j + 1) = r.upL j ++ (Oct.str (r.al j).x.toNat 4 ++ Oct.str (r.al j).f.toNat 8 ++ Oct.str (r.al j).l.toNat 8) from rfl)
  have FIN := Lib.hid (show r.bytes = r.upL r.nl from rfl)
  have IMG := Lib.hid him; have ALV := Lib.hid hal; have KI := Lib.hid ki; have KL := Lib.hid kl
  have Z0 := Lib.hid (show (Oct.str r.k.toNat 1).size = 1 ∧ (Oct.str r.x.toNat 4).size = 4 ∧ (Oct.str r.pv.toNat 8).size = 8 ∧ (Oct.str r.nx.toNat 8).size = 8 ∧ (Oct.str r.fr.toNat 4).size = 4 from ⟨Oct.str_size _ _, Oct.str_size _ _, Oct.str_size _ _, Oct.str_size _ _, Oct.str_size _ _⟩)
  have Z1 := Lib.hid (show (Oct.str r.u.k.toNat 1).size = 1 ∧ (Oct.str r.u.st.toNat 1).size = 1 ∧ (Oct.str r.u.pg.toNat 4).size = 4 ∧ (Oct.str r.u.sl.toNat 1).size = 1 ∧ (Oct.text r.u.key).size = 1 + r.u.key.size ∧ (Oct.str r.u.bs.toNat 1).size = 1 ∧ (Oct.text r.u.bd).size = 1 + r.u.bd.size ∧ (Oct.str r.ni 1).size = 1 ∧ (Oct.str r.nl 1).size = 1 ∧ r.u.key.size ≤ 8 ∧ r.u.bd.size ≤ 34 from ⟨Oct.str_size _ _, Oct.str_size _ _, Oct.str_size _ _, Oct.str_size _ _, text_size _, Oct.str_size _ _, text_size _, Oct.str_size _ _, Oct.str_size _ _, kk, kd⟩)
  have HII := Lib.hid hI; have HLL := Lib.hid hL
  obtain ⟨ai, ci, rfl, hmi, hI⟩ := hI
  obtain ⟨al, cl, rfl, hml, hL⟩ := hL
  have HI := Lib.hid hI; have HL := Lib.hid hL
  have hmi' : r.ni ≤ 24 := ki
  have hml' : r.nl ≤ 8 := kl
  clear k1 k2 kx kf kp kn ku ki kl him hal hI hL cn cm hmi hml kk kd u1 u2 u3 u4 u5 u7 u8 u10 u11
  generalize hcs : r.cs (.slice ai r.ni ci) (.slice al r.nl cl) = cs at *
  have hcs' := hcs
  have HCS := Lib.hid hcs'
  unfold Rc.cs at hcs
  subst hcs
  go_enter Try.func10, Try.ntmps10
  go_wp2_with (refine wpList_load_part 29 _ rfl (by first | rfl | kernel_rfl) w.heap.size 0 _ rfl (rc_load (by have := K0.out; rw [← HCS.out] at this; exact this)) ?_)
  refine CC.out.mono ?_
  rintro e w1 ⟨⟨rfl, _⟩ | ⟨_, hno⟩, hb⟩
  rotate_left
  · exact absurd HH.out hno
  have K1 := Lib.hid (K0.out.kept hb)
  have B1 := Lib.hid (below_then B0.out hb B0.out.size)
  clear hb K0 B0 CC hcs'
  have K2 := Lib.hid (K1.out.alloc (.cells r.u.cs 25))
  have KU := Lib.hid (Bk.new w1 25 r.u.cs)
  have B2 := Lib.hid (B1.out.alloc B1.out.size (.cells r.u.cs 25))
  go_wp2_with (first
    | (refine wpList_load_part 25 _ rfl (by first | rfl | kernel_rfl) w.heap.size 4 r.u.cs rfl (rc_undo (by have := K1.out; rw [← HCS.out] at this; exact this)) ?_)
    | (refine store_fresh 25 _ r.u.cs w1.heap.size rfl ⟨rfl, rfl⟩ _ _ rfl undo_info rfl (by simp [Value.oneCell', Un.cs]) rfl rfl ?_; generalize (w1.alloc (.cells r.u.cs 25)) = w2 at K2 KU B2 ⊢))
  have x0 := K2.out.cell 0; have x1 := K2.out.cell 1; have x2 := K2.out.cell 2; have x3 := K2.out.cell 3; have x13 := K2.out.cell 13
  simp only [List.getElem?_toArray, List.getElem?_cons_zero, List.getElem?_cons_succ] at x0 x1 x2 x3 x13
  have U0' := U0.out
  obtain ⟨s1, s2, s3, s4, s5⟩ := Z0.out
  generalize Oct.str r.k.toNat 1 = t1 at *
  generalize Oct.str r.x.toNat 4 = t2 at *
  generalize Oct.str r.pv.toNat 8 = t3 at *
  generalize Oct.str r.nx.toNat 8 = t4 at *
  generalize Oct.str r.fr.toNat 4 = t5 at *
  have n0 : ¬ 9223372036854775807 < t1.size + t2.size := by omega
  have n1 : ¬ 9223372036854775807 < t1.size + t2.size + t3.size := by omega
  have n2 : ¬ 9223372036854775807 < t1.size + t2.size + t3.size + t4.size := by omega
  have n3 : ¬ 9223372036854775807 < t1.size + t2.size + t3.size + t4.size + t5.size := by omega
  have hd : (t1 ++ t2 ++ t3 ++ t4 ++ t5).size = 25 := by simp only [ByteArray.size_append]; omega
  have HD := Lib.hid hd
  clear hd U0'
  refine wp_region_kept (by kernel_rfl) (by kernel_rfl) ?_
  (go_big_quiet_want; go_big_quiet_op; go_big_quiet_on)
  (go_big_quiet_want; refine q_int _ rfl w.heap.size 0 _ rfl x0 ?_; simp only [Act.put, List.setIfInBounds_toArray, List.set_cons_succ, List.set_cons_zero]; go_big_quiet_on)
  (go_big_quiet_want; go_big_quiet_op; go_big_quiet_call (exact kp_call (C1.out _)))
  (go_big_quiet_want; go_big_quiet_op; go_big_quiet_on)
  (go_big_quiet_want; refine q_int _ rfl w.heap.size 1 _ rfl x1 ?_; simp only [Act.put, List.setIfInBounds_toArray, List.set_cons_succ, List.set_cons_zero]; go_big_quiet_on)
  (go_big_quiet_want; go_big_quiet_op; go_big_quiet_call (exact kp_call (C2.out _)))
  (go_big_quiet_want; go_big_quiet_op; go_big_quiet_on)
  (go_big_quiet_want; go_big_quiet_op; go_big_quiet_on)
  (go_big_quiet_want; refine q_int _ rfl w.heap.size 2 _ rfl x2 ?_; simp only [Act.put, List.setIfInBounds_toArray, List.set_cons_succ, List.set_cons_zero]; go_big_quiet_on)
  (go_big_quiet_want; go_big_quiet_op; go_big_quiet_call (exact kp_call (C3.out _)))
  (go_big_quiet_want; go_big_quiet_op; go_big_quiet_on)
  (go_big_quiet_want; go_big_quiet_op; go_big_quiet_on)
  (go_big_quiet_want; refine q_int _ rfl w.heap.size 3 _ rfl x3 ?_; simp only [Act.put, List.setIfInBounds_toArray, List.set_cons_succ, List.set_cons_zero]; go_big_quiet_on)
  (go_big_quiet_want; go_big_quiet_op; go_big_quiet_call (exact kp_call (C4.out _)))
  (go_big_quiet_want; go_big_quiet_op; go_big_quiet_on)
  (go_big_quiet_want; go_big_quiet_op; go_big_quiet_on)
  (go_big_quiet_want; refine q_int _ rfl w.heap.size 13 _ rfl x13 ?_; simp only [Act.put, List.setIfInBounds_toArray, List.set_cons_succ, List.set_cons_zero]; go_big_quiet_on)
  (go_big_quiet_want; go_big_quiet_op; go_big_quiet_call (exact kp_call (C5.out _)))
  (go_big_quiet_want; go_big_quiet_op; go_big_quiet_on)
  (go_big_quiet_want; go_big_quiet_op; go_big_quiet_on)
  refine wpQuiet_nil ?_
  rintro _ ⟨x, rfl⟩
  have K3 := Lib.hid (x.bk K2.out); have KU3 := Lib.hid (x.bk KU.out); have B3 := Lib.hid (B2.out.trans (x.2.mono B2.out.size))
  generalize x.1 = w3 at *
  clear x0 x1 x2 x3 x13 n0 n1 n2 n3 K2 KU B2 C1 C2 C3 C4 C5 s1 s2 s3 s4 s5 K1 B1 Z0
  have hd := HD.out
  generalize t1 ++ t2 ++ t3 ++ t4 ++ t5 = hh at *
  have y0 : w3.cell? ⟨w1.heap.size, 0, none⟩ = some (.int .i64 r.u.k) := KU3.out.cell 0; have y1 : w3.cell? ⟨w1.heap.size, 1, none⟩ = some (.int .i64 r.u.st) := KU3.out.cell 1; have y2 : w3.cell? ⟨w1.heap.size, 2, none⟩ = some (.int .i64 r.u.pg) := KU3.out.cell 2; have y3 : w3.cell? ⟨w1.heap.size, 3, none⟩ = some (.int .i64 r.u.sl) := KU3.out.cell 3
  have y4 : w3.cell? ⟨w1.heap.size, 4, none⟩ = some (.string r.u.key) := KU3.out.cell 4
  obtain ⟨s1, s2, s3, s4, s5, s6, s7, s8, s9, s10, s11⟩ := Z1.out
  generalize Oct.str r.u.k.toNat 1 = t1 at *
  generalize Oct.str r.u.st.toNat 1 = t2 at *
  generalize Oct.str r.u.pg.toNat 4 = t3 at *
  generalize Oct.str r.u.sl.toNat 1 = t4 at *
  generalize Oct.text r.u.key = t5 at *
  have n0 : ¬ 9223372036854775807 < t1.size + t2.size := by omega
  have n1 : ¬ 9223372036854775807 < t1.size + t2.size + t3.size := by omega
  have n2 : ¬ 9223372036854775807 < t1.size + t2.size + t3.size + t4.size := by omega
  have n3 : ¬ 9223372036854775807 < t1.size + t2.size + t3.size + t4.size + t5.size := by omega
  have n4 : ¬ 9223372036854775807 < hh.size + (t1.size + t2.size + t3.size + t4.size + t5.size) := by omega
  have HD2 := Lib.hid (show (hh ++ (t1 ++ t2 ++ t3 ++ t4 ++ t5)).size ≤ 100 by simp only [ByteArray.size_append]; omega)
  clear hd HD
  go_wp2_with fail
  refine wp_region_kept (by kernel_rfl) (by kernel_rfl) ?_
  (go_big_quiet_want; go_big_quiet_op; go_big_quiet_on)
  (go_big_quiet_want; go_big_quiet_op; go_big_quiet_on)
  (go_big_quiet_want; refine q_int _ rfl w1.heap.size 0 _ rfl y0 ?_; simp only [Act.put, List.setIfInBounds_toArray, List.set_cons_succ, List.set_cons_zero]; go_big_quiet_on)
  (go_big_quiet_want; go_big_quiet_op; go_big_quiet_call (exact kp_call (D1.out _)))
  (go_big_quiet_want; go_big_quiet_op; go_big_quiet_on)
  (go_big_quiet_want; refine q_int _ rfl w1.heap.size 1 _ rfl y1 ?_; simp only [Act.put, List.setIfInBounds_toArray, List.set_cons_succ, List.set_cons_zero]; go_big_quiet_on)
  (go_big_quiet_want; go_big_quiet_op; go_big_quiet_call (exact kp_call (D2.out _)))
  (go_big_quiet_want; go_big_quiet_op; go_big_quiet_on)
  (go_big_quiet_want; go_big_quiet_op; go_big_quiet_on)
  (go_big_quiet_want; refine q_int _ rfl w1.heap.size 2 _ rfl y2 ?_; simp only [Act.put, List.setIfInBounds_toArray, List.set_cons_succ, List.set_cons_zero]; go_big_quiet_on)
  (go_big_quiet_want; go_big_quiet_op; go_big_quiet_call (exact kp_call (D3.out _)))
  (go_big_quiet_want; go_big_quiet_op; go_big_quiet_on)
  (go_big_quiet_want; go_big_quiet_op; go_big_quiet_on)
  (go_big_quiet_want; refine q_int _ rfl w1.heap.size 3 _ rfl y3 ?_; simp only [Act.put, List.setIfInBounds_toArray, List.set_cons_succ, List.set_cons_zero]; go_big_quiet_on)
  (go_big_quiet_want; go_big_quiet_op; go_big_quiet_call (exact kp_call (D4.out _)))
  (go_big_quiet_want; go_big_quiet_op; go_big_quiet_on)
  (go_big_quiet_want; go_big_quiet_op; go_big_quiet_on)
  (go_big_quiet_want; refine q_str _ rfl w1.heap.size 4 _ rfl y4 ?_; simp only [Act.put, List.setIfInBounds_toArray, List.set_cons_succ, List.set_cons_zero]; go_big_quiet_on)
  (go_big_quiet_want; go_big_quiet_op; go_big_quiet_call (exact kp_call (D5.out _)))
  (go_big_quiet_want; go_big_quiet_op; go_big_quiet_on)
  (go_big_quiet_want; go_big_quiet_op; go_big_quiet_on)
  (go_big_quiet_want; go_big_quiet_op; go_big_quiet_on)
  refine wpQuiet_nil ?_
  rintro _ ⟨x, rfl⟩
  have K4 := Lib.hid (x.bk K3.out); have KU4 := Lib.hid (x.bk KU3.out); have B4 := Lib.hid (B3.out.trans (x.2.mono B3.out.size))
  generalize x.1 = w4 at *
  clear y0 y1 y2 y3 y4 n0 n1 n2 n3 n4 K3 KU3 B3 D1 D2 D3 D4 D5 s1 s2 s3 s4 s5
  have hd := HD2.out
  generalize hh ++ (t1 ++ t2 ++ t3 ++ t4 ++ t5) = gg at *
  have y5 : w4.cell? ⟨w1.heap.size, 5, none⟩ = some (.int .i64 r.u.bs) := KU4.out.cell 5
  have y6 : w4.cell? ⟨w1.heap.size, 6, none⟩ = some (.string r.u.bd) := KU4.out.cell 6
  have x11 := K4.out.cell 11
  simp only [List.getElem?_toArray, List.getElem?_cons_zero, List.getElem?_cons_succ] at x11
  have X11 := Lib.hid x11
  clear x11
  generalize Oct.str r.u.bs.toNat 1 = t1 at *
  generalize Oct.text r.u.bd = t2 at *
  generalize Oct.str r.ni 1 = t3 at *
  generalize Oct.str r.nl 1 = t7 at *
  have n0 : ¬ 9223372036854775807 < t1.size + t2.size := by omega
  have n1 : ¬ 9223372036854775807 < t1.size + t2.size + t3.size := by omega
  have n2 : ¬ 9223372036854775807 < gg.size + (t1.size + t2.size + t3.size) := by omega
  have U0' := U0.out
  have HD3 := Lib.hid s9
  clear U0 HD2 s6 s7 s8 s9 hd
  go_wp2_with fail
  refine wp_region_kept (by kernel_rfl) (by kernel_rfl) ?_
  (go_big_quiet_want; go_big_quiet_op; go_big_quiet_on)
  (go_big_quiet_want; go_big_quiet_op; go_big_quiet_on)
  (go_big_quiet_want; go_big_quiet_op; go_big_quiet_on)
  (go_big_quiet_want; refine q_int _ rfl w1.heap.size 5 _ rfl y5 ?_; simp only [Act.put, List.setIfInBounds_toArray, List.set_cons_succ, List.set_cons_zero]; go_big_quiet_on)
  (go_big_quiet_want; go_big_quiet_op; go_big_quiet_call (exact kp_call (D6.out _)))
  (go_big_quiet_want; go_big_quiet_op; go_big_quiet_on)
  (go_big_quiet_want; go_big_quiet_op; go_big_quiet_on)
  (go_big_quiet_want; refine q_str _ rfl w1.heap.size 6 _ rfl y6 ?_; simp only [Act.put, List.setIfInBounds_toArray, List.set_cons_succ, List.set_cons_zero]; go_big_quiet_on)
  (go_big_quiet_want; go_big_quiet_op; go_big_quiet_call (exact kp_call (D7.out _)))
  (go_big_quiet_want; go_big_quiet_op; go_big_quiet_on)
  (go_big_quiet_want; go_big_quiet_op; go_big_quiet_on)
  (go_big_quiet_want; refine q_load 26 _ rfl ⟨w.heap.size, 11, none⟩ _ rfl (fun x => ims_load (x.cell X11.out)) ?_; simp only [Act.put, List.setIfInBounds_toArray, List.set_cons_succ, List.set_cons_zero]; go_big_quiet_on)
  (go_big_quiet_want; go_big_quiet_op; go_big_quiet_on)
  (go_big_quiet_want; go_big_quiet_op; go_big_quiet_call (exact kp_call (CN.out _)))
  (go_big_quiet_want; go_big_quiet_op; go_big_quiet_on)
  (go_big_quiet_want; go_big_quiet_op; go_big_quiet_on)
  (go_big_quiet_want; go_big_quiet_op; go_big_quiet_on)
  refine wpQuiet_nil ?_
  rintro _ ⟨x, rfl⟩
  have K5 := Lib.hid (x.bk K4.out); have B5 := Lib.hid (B4.out.trans (x.2.mono B4.out.size))
  generalize x.1 = w5 at *
  clear y5 y6 n0 n1 n2 K4 KU4 B4 D6 D7 CN X11 s10 s11
  go_wp2_with fail
  rw [← U0']
  clear U0'
  go_loopw [5, 6] (fun s i wr => ∃ j : Nat, j ≤ r.ni ∧ i = .int .i64 j ∧ s = .string (r.upI j) ∧ Below w.heap.size w wr ∧ Below w5.heap.size w5 wr) (fun _ i _ => r.ni - (intOf i).toNat)
  case atStart => exact ⟨0, Nat.zero_le _, rfl, rfl, B5.out, Below.refl _ _⟩
  case round =>
    clear B5
    obtain ⟨j, hj, rfl, rfl, hb, hb'⟩ := hrel
    have HB := Lib.hid hb; have HB' := Lib.hid hb'
    have KA' := Lib.hid (K5.out.kept hb')
    have x11 := KA'.out.cell 11
    simp only [List.getElem?_toArray, List.getElem?_cons_zero, List.getElem?_cons_succ] at x11
    clear hb hb'
    by_cases hlt : j < r.ni
    · obtain ⟨b, off, rfl, hbB, hcell⟩ := HI.out (by omega)
      have y0 := Lib.hid (fun (w' : World) (h : Below w.heap.size w w') => show w'.cell? ⟨b, off + j * 17, none⟩ = some (.int .i64 (r.im j).id) by rw [h.cell (p := ⟨b, off + j * 17, none⟩) hbB]; exact hcell j hlt 0 _ rfl)
      have hpg : (loadVar 49 ⟨b, off + j * 17 + 1, none⟩).run Try.prog wr = .ok (.agg (r.im j).p.cs) wr :=
        part_load Try.underlying49 wr b (off + j * 17 + 1) (r.im j).p.cs page_info fun q u hq => by
          rw [HB.out.cell (p := ⟨b, off + j * 17 + 1 + q, none⟩) hbB, Nat.add_assoc (off + j * 17)]
          refine hcell j hlt (1 + q) u ?_
          have e : (r.im j).cs = (Value.int .i64 (r.im j).id :: (r.im j).p.cs.toList).toArray := rfl
          rw [e, Nat.add_comm]
          simpa using hq
      have HPG := Lib.hid hpg
      have hok := IMG.out j hlt
      have sz := S1.out j hj
      have us := US.out j
      clear hcell hpg
      generalize r.upI j = uj at *
      generalize huj : r.upI (j + 1) = uj' at *
      have HUJ := Lib.hid huj
      clear huj
      generalize hm : r.im j = m at *
      have HM := Lib.hid hm
      clear hm
      have ce := fun w => rencode_good m.p w hok.2
      have ci := fun w => rput4 m.id w hok.1.1 (by have := hok.1.2; omega)
      have pz := Pg.bytes_size hok.2
      have iz : (Oct.str m.id.toNat 4).size = 4 := Oct.str_size _ _
      unfold Pg.v at ce
      generalize m.p.bytes = pb at *
      generalize Oct.str m.id.toNat 4 = ib at *
      have CE := Lib.hid ce; have CI := Lib.hid ci; have USJ := Lib.hid us
      have f0 : ¬ 9223372036854775807 < ib.size + pb.size := by omega
      have f1 : ¬ 9223372036854775807 < uj.size + (ib.size + pb.size) := by
        have := Z1.out.2.2.2.2.2.2.2.2.2
        omega
      have HLT := Lib.hid hlt
      have hj0 : (0 : Int) ≤ (j : Int) := by omega
      have hjl : (j : Int) < (r.ni : Int) := by omega
      clear ce ci hok us sz pz iz
      go_wp2_with (refine wpList_load_part 49 _ rfl (by first | rfl | kernel_rfl) b (off + j * 17 + 1) m.p.cs rfl HPG.out ?_)
      refine (CE.out _).mono ?_
      rintro e w6 ⟨rfl, hb6⟩
      have B6 := Lib.hid (below_then HB.out hb6 HB.out.size); have B6' := Lib.hid (below_then HB'.out hb6 HB'.out.size)
      have z0 := y0.out _ B6.out
      have z11 := (KA'.out.kept hb6).cell 11
      simp only [List.getElem?_toArray, List.getElem?_cons_zero, List.getElem?_cons_succ] at z11
      clear hb6 CE x11
      go_wp2_with fail
      refine (CI.out _).mono ?_
      rintro e w7 ⟨rfl, hb7⟩
      have B7 := Lib.hid (below_then B6.out hb7 B6.out.size); have B7' := Lib.hid (below_then B6'.out hb7 B6'.out.size)
      clear hb7 B6 B6' CI z0 z11
      go_wp2
      go_roundw
      case rel => exact ⟨j + 1, by have := HLT.out; omega, by go_num, by rw [HUJ.out, USJ.out], B7.out, B7'.out⟩
      case measure => have := HLT.out; simp [intOf]; omega
    · have x12 := KA'.out.cell 12
      simp only [List.getElem?_toArray, List.getElem?_cons_zero, List.getElem?_cons_succ] at x12
      have sz := S1.out r.ni (Nat.le_refl _)
      have HJ := Lib.hid (show j = r.ni by omega)
      have hup : r.upI j = r.upI r.ni := by rw [HJ.out]
      rw [hup]
      have L0' := L0.out
      generalize r.upI r.ni = ui at *
      have f0 : ¬ 9223372036854775807 < ui.size + t7.size := by
        have g7 := HD3.out
        have := Z1.out.2.2.2.2.2.2.2.2.2
        have g0 := KI.out
        omega
      clear hup sz
      go_wp2_with fail
      refine (CM.out _).mono ?_
      rintro e w7 ⟨rfl, hb7⟩
      have B7 := Lib.hid (below_then HB.out hb7 HB.out.size)
      have KB' := Lib.hid (KA'.out.kept hb7)
      clear hb7 x11 x12 HB CM
      go_wp2_with fail
      rw [← L0']
      clear f0 L0' L0 hlt hj
      go_loopw [5, 9] (fun s i wr => ∃ j : Nat, j ≤ r.nl ∧ i = .int .i64 j ∧ s = .string (r.upL j) ∧ Below w.heap.size w wr ∧ Below w7.heap.size w7 wr) (fun _ i _ => r.nl - (intOf i).toNat)
      case atStart => exact ⟨0, Nat.zero_le _, rfl, rfl, B7.out, Below.refl _ _⟩
      case round =>
        clear B7
        obtain ⟨j, hj, rfl, rfl, hb, hb'⟩ := hrel
        have HB := Lib.hid hb; have HB' := Lib.hid hb'
        have KC' := Lib.hid (KB'.out.kept hb')
        have x12 := KC'.out.cell 12
        simp only [List.getElem?_toArray, List.getElem?_cons_zero, List.getElem?_cons_succ] at x12
        clear hb hb'
        by_cases hlt : j < r.nl
        · obtain ⟨b, off, cc, e1, hld⟩ := al_at HLL.out hlt
          obtain ⟨rfl, rfl⟩ : al = some ⟨b, off, none⟩ ∧ cl = cc := by simpa using e1
          have HLD := Lib.hid (hld _ HB.out)
          have hok := ALV.out j hlt
          have sz := S2.out j hj
          have us := LS.out j
          clear e1 hld
          generalize r.upL j = uj at *
          generalize huj : r.upL (j + 1) = uj' at *
          have HUJ := Lib.hid huj
          clear huj
          generalize hm : r.al j = m at *
          have HM := Lib.hid hm
          clear hm
          obtain ⟨mx, mf, ml⟩ := m
          obtain ⟨⟨o1, o2⟩, ⟨o3, o4⟩, ⟨o5, o6⟩⟩ := hok
          dsimp only at us o1 o2 o3 o4 o5 o6
          have d1 := fun w => rput4 mx w o1 (by omega); have d2 := fun w => rput8 mf w o3 (by omega); have d3 := fun w => rput8 ml w o5 (by omega)
          have i1 : (Oct.str mx.toNat 4).size = 4 := Oct.str_size _ _
          have i2 : (Oct.str mf.toNat 8).size = 8 := Oct.str_size _ _
          have i3 : (Oct.str ml.toNat 8).size = 8 := Oct.str_size _ _
          generalize Oct.str mx.toNat 4 = b1 at *
          generalize Oct.str mf.toNat 8 = b2 at *
          generalize Oct.str ml.toNat 8 = b3 at *
          have E1 := Lib.hid d1; have E2 := Lib.hid d2; have E3 := Lib.hid d3; have USJ := Lib.hid us
          have hs : uj.size + (b1.size + b2.size + b3.size) ≤ 100000 := by have := KI.out; have := KL.out; have := Z1.out.2.2.2.2.2.2.2.2.2; omega
          have HS := Lib.hid hs
          have HLT := Lib.hid hlt
          have hj0 : (0 : Int) ≤ (j : Int) := by omega
          have hjl : (j : Int) < (r.nl : Int) := by omega
          have B8 := Lib.hid (HB.out.alloc HB.out.size (.cells (Al.cs ⟨mx, mf, ml⟩) 54))
          have B8' := Lib.hid (HB'.out.alloc HB'.out.size (.cells (Al.cs ⟨mx, mf, ml⟩) 54))
          have K8 := Lib.hid (Bk.new wr 54 (Al.cs ⟨mx, mf, ml⟩))
          clear d1 d2 d3 us sz o1 o2 o3 o4 o5 o6 i1 i2 i3 hs
          go_wp2_with (first
            | (refine wpList_load_part 54 _ rfl (by first | rfl | kernel_rfl) b (off + j * 3) (Al.cs ⟨mx, mf, ml⟩) rfl HLD.out ?_)
            | (refine store_fresh 54 _ (Al.cs ⟨mx, mf, ml⟩) wr.heap.size rfl ⟨rfl, rfl⟩ _ _ rfl alive_info rfl (by simp [Value.oneCell', Al.cs]) rfl rfl ?_; generalize (wr.alloc (.cells (Al.cs ⟨mx, mf, ml⟩) 54)) = w8 at K8 B8 B8' ⊢))
          have z0 : w8.cell? ⟨wr.heap.size, 0, none⟩ = some (.int .i64 mx) := K8.out.cell 0; have z1 : w8.cell? ⟨wr.heap.size, 1, none⟩ = some (.int .i64 mf) := K8.out.cell 1; have z2 : w8.cell? ⟨wr.heap.size, 2, none⟩ = some (.int .i64 ml) := K8.out.cell 2
          have hs := HS.out
          have n0 : ¬ 9223372036854775807 < b1.size + b2.size := by omega
          have n1 : ¬ 9223372036854775807 < b1.size + b2.size + b3.size := by omega
          have n2 : ¬ 9223372036854775807 < uj.size + (b1.size + b2.size + b3.size) := by omega
          clear hs x12
          refine wp_region_kept (by kernel_rfl) (by kernel_rfl) ?_
          (go_big_quiet_want; go_big_quiet_op; go_big_quiet_on)
          (go_big_quiet_want; go_big_quiet_op; go_big_quiet_on)
          (go_big_quiet_want; refine q_int _ rfl wr.heap.size 0 _ rfl z0 ?_; simp only [Act.put, List.setIfInBounds_toArray, List.set_cons_succ, List.set_cons_zero]; go_big_quiet_on)
          (go_big_quiet_want; go_big_quiet_op; go_big_quiet_call (exact kp_call (E1.out _)))
          (go_big_quiet_want; go_big_quiet_op; go_big_quiet_on)
          (go_big_quiet_want; refine q_int _ rfl wr.heap.size 1 _ rfl z1 ?_; simp only [Act.put, List.setIfInBounds_toArray, List.set_cons_succ, List.set_cons_zero]; go_big_quiet_on)
          (go_big_quiet_want; go_big_quiet_op; go_big_quiet_call (exact kp_call (E2.out _)))
          (go_big_quiet_want; go_big_quiet_op; go_big_quiet_on)
          (go_big_quiet_want; go_big_quiet_op; go_big_quiet_on)
          (go_big_quiet_want; refine q_int _ rfl wr.heap.size 2 _ rfl z2 ?_; simp only [Act.put, List.setIfInBounds_toArray, List.set_cons_succ, List.set_cons_zero]; go_big_quiet_on)
          (go_big_quiet_want; go_big_quiet_op; go_big_quiet_call (exact kp_call (E3.out _)))
          (go_big_quiet_want; go_big_quiet_op; go_big_quiet_on)
          (go_big_quiet_want; go_big_quiet_op; go_big_quiet_on)
          (go_big_quiet_want; go_big_quiet_op; go_big_quiet_on)
          refine wpQuiet_nil ?_
          rintro _ ⟨x, rfl⟩
          have B9 := Lib.hid (B8.out.trans (x.2.mono B8.out.size)); have B9' := Lib.hid (B8'.out.trans (x.2.mono B8'.out.size))
          clear z0 z1 z2 n0 n1 n2
          go_wp2_with fail
          go_roundw
          case rel => exact ⟨j + 1, by have := HLT.out; omega, by go_num, by rw [HUJ.out, USJ.out], B9.out, B9'.out⟩
          case measure => have := HLT.out; simp [intOf]; omega
        · have HJ2 := Lib.hid (show r.upL j = r.bytes by rw [FIN.out, show j = r.nl by omega])
          go_wp2
          go_ret2
          exact ⟨by rw [← HJ2.out]; rfl, HB.out⟩

set_option maxRecDepth 100000 in
set_option maxHeartbeats 2000000 in
theorem rencode6_bad (r : Rc) (vi vl : Value) (w : World) (h : ¬ r.ok) (hI : ImAt w w.heap.size vi r.ni r.im) (hL : AlAt w w.heap.size vl r.nl r.al) :
    Calls Try.prog 10 #[.agg (r.cs vi vl)] w fun e w' => e = .returned (.tuple #[.string ⟨#[]⟩, .int .i64 1]) ∧ Below w.heap.size w w' := by
  have B0 := Lib.hid ((Below.refl w.heap.size w).alloc (Nat.le_refl _) (.cells (r.cs vi vl) 29))
  have CC := Lib.hid (rright6_any r vi vl (w.alloc (.cells (r.cs vi vl) 29)) ((hI.below B0.out (Nat.le_refl _)).mono B0.out.size) ((hL.below B0.out (Nat.le_refl _)).mono B0.out.size))
  have K0 := Lib.hid (Bk.new w 29 (r.cs vi vl))
  have HH := Lib.hid h
  clear hI hL h
  generalize hcs : r.cs vi vl = cs at *
  have hcs' := hcs
  have HCS := Lib.hid hcs'
  unfold Rc.cs at hcs
  subst hcs
  go_enter Try.func10, Try.ntmps10
  go_wp2_with (refine wpList_load_part 29 _ rfl (by first | rfl | kernel_rfl) w.heap.size 0 _ rfl (rc_load (by have := K0.out; rw [← HCS.out] at this; exact this)) ?_)
  refine CC.out.mono ?_
  rintro e w1 ⟨⟨rfl, hk⟩ | ⟨rfl, _⟩, hb⟩
  · exact absurd hk HH.out
  · have B1 := Lib.hid (below_then B0.out hb B0.out.size)
    clear hb
    go_wp2
    go_ret2
    exact ⟨rfl, B1.out⟩
theorem rencode6_any (r : Rc) (vi vl : Value) (w : World) (hI : ImAt w w.heap.size vi r.ni r.im) (hL : AlAt w w.heap.size vl r.nl r.al) :
    Calls Try.prog 10 #[.agg (r.cs vi vl)] w fun e w' => ((e = .returned (.tuple #[.string r.bytes, .int .i64 0]) ∧ r.ok) ∨ (e = .returned (.tuple #[.string ⟨#[]⟩, .int .i64 1]) ∧ ¬ r.ok)) ∧ Below w.heap.size w w' := by
  by_cases h : r.ok
  · exact (rencode6_good r vi vl w h hI hL).mono fun e w' ⟨he, hb⟩ => ⟨.inl ⟨he, h⟩, hb⟩
  · exact (rencode6_bad r vi vl w h hI hL).mono fun e w' ⟨he, hb⟩ => ⟨.inr ⟨he, h⟩, hb⟩
end Go.Proofs.Ytggabnmfjooejaa
