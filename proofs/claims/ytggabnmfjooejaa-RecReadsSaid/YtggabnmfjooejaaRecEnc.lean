/- The walk of logrec.Encode. -/
import Derived.Test.YtggabnmfjooejaaRecCheck2
set_option linter.unusedVariables false
set_option linter.unusedSimpArgs false
namespace Go.Proofs.Ytggabnmfjooejaa
open Go.RowKit Go.BigFrame

theorem rc_load {w : World} {g : Nat} {r : Rc} {vi vl : Value} (h : Bk w g 29 (r.cs vi vl)) : (loadVar 29 ⟨g, 0, none⟩).run Try.prog w = .ok (.agg (r.cs vi vl)) w :=
  part_load Try.underlying29 w g 0 (r.cs vi vl) (by kernel_rfl) fun j u hj => by
    rw [Nat.zero_add, h.cell]; simpa using hj

set_option maxRecDepth 100000 in
set_option maxHeartbeats 2000000 in
theorem lencode_bad (r : Rc) (vi vl : Value) (w : World) (h : ¬ r.ok) (hI : ImAt w w.heap.size vi r.ni r.im) (hL : AlAt w w.heap.size vl r.nl r.al) :
    Calls Try.prog 9 #[.agg (r.cs vi vl)] w fun e w' => e = .returned (.tuple #[.string ⟨#[]⟩, .int .i64 1]) ∧ Below w.heap.size w w' := by
  have B0 := Lib.hid ((Below.refl w.heap.size w).alloc (Nat.le_refl _) (.cells (r.cs vi vl) 29))
  have CC := Lib.hid (lcheck_any r vi vl (w.alloc (.cells (r.cs vi vl) 29)) ((hI.below B0.out (Nat.le_refl _)).mono B0.out.size) ((hL.below B0.out (Nat.le_refl _)).mono B0.out.size))
  have K0 := Lib.hid (Bk.new w 29 (r.cs vi vl))
  have HH := Lib.hid h
  clear hI hL h
  generalize hcs : r.cs vi vl = cs at *
  have hcs' := hcs
  have HCS := Lib.hid hcs'
  unfold Rc.cs at hcs
  subst hcs
  go_enter Try.func9, Try.ntmps9
  go_wp2_with (refine wpList_load_part 29 _ rfl (by first | rfl | kernel_rfl) w.heap.size 0 _ rfl (rc_load (by have := K0.out; rw [← HCS.out] at this; exact this)) ?_)
  refine CC.out.mono ?_
  rintro e w1 ⟨⟨rfl, hk⟩ | ⟨rfl, _⟩, hb⟩
  · exact absurd hk HH.out
  · have B1 := Lib.hid (below_then B0.out hb B0.out.size)
    clear hb
    go_wp2
    go_ret2
    exact ⟨rfl, B1.out⟩

set_option maxRecDepth 100000 in
set_option maxHeartbeats 4000000 in
theorem lencode_good (r : Rc) (vi vl : Value) (w : World) (h : r.ok) (hI : ImAt w w.heap.size vi r.ni r.im) (hL : AlAt w w.heap.size vl r.nl r.al) :
    Calls Try.prog 9 #[.agg (r.cs vi vl)] w fun e w' => e = .returned (.tuple #[.string r.bytes, .int .i64 0]) ∧ Below w.heap.size w w' := by
  have B0 := Lib.hid ((Below.refl w.heap.size w).alloc (Nat.le_refl _) (.cells (r.cs vi vl) 29))
  have CC := Lib.hid (lcheck_any r vi vl (w.alloc (.cells (r.cs vi vl) 29)) ((hI.below B0.out (Nat.le_refl _)).mono B0.out.size) ((hL.below B0.out (Nat.le_refl _)).mono B0.out.size))
  have K0 := Lib.hid (Bk.new w 29 (r.cs vi vl))
  have HH := Lib.hid h
  obtain ⟨⟨k1, k2, kx, kf⟩, ⟨kp, kn, ku⟩, ⟨ki, kl⟩, him, hal⟩ := h
  have C1 := Lib.hid (fun w => lnum1 r.k w (by omega) (by omega)); have C2 := Lib.hid (fun w => lnum4 r.x w kx.1 (by have := kx.2; omega)); have C3 := Lib.hid (fun w => lnum8 r.pv w kp.1 (by have := kp.2; omega)); have C4 := Lib.hid (fun w => lnum8 r.nx w kn.1 (by have := kn.2; omega)); have C5 := Lib.hid (fun w => lnum4 r.fr w kf.1 (by have := kf.2; omega))
  have CU := Lib.hid (fun w => undoBytes_any r.u w ku)
  have cn := fun w => lnum1 (r.ni : Int) w (by omega) (by omega)
  have cm := fun w => lnum1 (r.nl : Int) w (by omega) (by omega)
  rw [Int.toNat_natCast] at cn cm
  have CN := Lib.hid cn; have CM := Lib.hid cm
  have S1 := Lib.hid (Rc.upI_size him); have S2 := Lib.hid (Rc.upL_size him)
  have kk := ku.2.2.2.2.2.2.2.1
  have kd := ku.2.2.2.2.2.2.2.2.2.2
  have hz := Rc.head_size r
  have hu := Un.bytes_size r.u
  have z1 : (Oct.str r.k.toNat 1).size = 1 := Oct.str_size _ _
  have z2 : (Oct.str r.x.toNat 4).size = 4 := Oct.str_size _ _
  have z3 : (Oct.str r.pv.toNat 8).size = 8 := Oct.str_size _ _
  have z4 : (Oct.str r.nx.toNat 8).size = 8 := Oct.str_size _ _
  have z5 : (Oct.str r.fr.toNat 4).size = 4 := Oct.str_size _ _
  have z6 : (Oct.str r.ni 1).size = 1 := Oct.str_size _ _
  have z7 : (Oct.str r.nl 1).size = 1 := Oct.str_size _ _
  have HEAD := Lib.hid (show r.head = Oct.str r.k.toNat 1 ++ Oct.str r.x.toNat 4 ++ Oct.str r.pv.toNat 8 ++ Oct.str r.nx.toNat 8 ++ Oct.str r.fr.toNat 4 from rfl)
  have U0 := Lib.hid (show r.upI 0 = r.head ++ r.u.bytes ++ Oct.str r.ni 1 from rfl); have L0 := Lib.hid (show r.upL 0 = r.upI r.ni ++ Oct.str r.nl 1 from rfl)
  have US := Lib.hid (fun j => show r.upI (j + 1) = r.upI j ++ (Oct.str (r.im j).id.toNat 4 ++ (r.im j).p.bytes) from rfl); have LS := Lib.hid (fun j => show r.upL (j + 1) = r.upL j ++ (Oct.str (r.al j).x.toNat 4 ++ Oct.str (r.al j).f.toNat 8 ++ Oct.str (r.al j).l.toNat 8) from rfl)
  have FIN := Lib.hid (show r.bytes = r.upL r.nl from rfl)
  have IMG := Lib.hid him; have ALV := Lib.hid hal; have KI := Lib.hid ki; have KL := Lib.hid kl
  have SZ := Lib.hid (And.intro z1 (And.intro z2 (And.intro z3 (And.intro z4 (And.intro z5 (And.intro z6 (And.intro z7 (And.intro kk (And.intro kd (And.intro hz hu))))))))))
  obtain ⟨ai, ci, rfl, hmi, hI⟩ := hI
  obtain ⟨al, cl, rfl, hml, hL⟩ := hL
  have HI := Lib.hid hI; have HL := Lib.hid hL
  have hmi' : r.ni ≤ 24 := ki
  have hml' : r.nl ≤ 8 := kl
  clear k1 k2 kx kf kp kn ku ki kl him hal hI hL cn cm z1 z2 z3 z4 z5 z6 z7 hmi hml kk kd hz hu
  generalize hcs : r.cs (.slice ai r.ni ci) (.slice al r.nl cl) = cs at *
  have hcs' := hcs
  have HCS := Lib.hid hcs'
  unfold Rc.cs at hcs
  subst hcs
  go_enter Try.func9, Try.ntmps9
  go_wp2_with (refine wpList_load_part 29 _ rfl (by first | rfl | kernel_rfl) w.heap.size 0 _ rfl (rc_load (by have := K0.out; rw [← HCS.out] at this; exact this)) ?_)
  refine CC.out.mono ?_
  rintro e w1 ⟨⟨rfl, _⟩ | ⟨_, hno⟩, hb⟩
  · have K1 := Lib.hid (K0.out.kept hb)
    have B1 := Lib.hid (below_then B0.out hb B0.out.size)
    clear hb K0 B0 CC hcs'
    go_wp2_with fail
    have x0 := K1.out.cell 0; have x1 := K1.out.cell 1; have x2 := K1.out.cell 2; have x3 := K1.out.cell 3; have x13 := K1.out.cell 13
    simp only [List.getElem?_toArray, List.getElem?_cons_zero, List.getElem?_cons_succ] at x0 x1 x2 x3 x13
    obtain ⟨s1, s2, s3, s4, s5, s6, s7, s8, s9, s10, s11⟩ := SZ.out
    rw [HEAD.out] at s10
    generalize Oct.str r.k.toNat 1 = t1 at *
    generalize Oct.str r.x.toNat 4 = t2 at *
    generalize Oct.str r.pv.toNat 8 = t3 at *
    generalize Oct.str r.nx.toNat 8 = t4 at *
    generalize Oct.str r.fr.toNat 4 = t5 at *
    have n0 : ¬ 9223372036854775807 < t1.size + t2.size := by omega
    have n1 : ¬ 9223372036854775807 < t1.size + t2.size + t3.size := by omega
    have n2 : ¬ 9223372036854775807 < t1.size + t2.size + t3.size + t4.size := by omega
    have n3 : ¬ 9223372036854775807 < t1.size + t2.size + t3.size + t4.size + t5.size := by omega
    refine wp_region_kept (by kernel_rfl) (by kernel_rfl) ?_
    (go_big_quiet_want; go_big_quiet_op; go_big_quiet_on)
    (go_big_quiet_want; refine q_int _ rfl w.heap.size 0 _ rfl x0 ?_; simp only [Act.put, List.setIfInBounds_toArray, List.set_cons_succ, List.set_cons_zero]; go_big_quiet_on)
    (go_big_quiet_want; go_big_quiet_op; go_big_quiet_call (exact kp_call (C1.out _)))
    (go_big_quiet_want; go_big_quiet_op; go_big_quiet_on)
    (go_big_quiet_want; refine q_int _ rfl w.heap.size 1 _ rfl x1 ?_; simp only [Act.put, List.setIfInBounds_toArray, List.set_cons_succ, List.set_cons_zero]; go_big_quiet_on)
    (go_big_quiet_want; go_big_quiet_op; go_big_quiet_call (exact kp_call (C2.out _)))
    (go_big_quiet_want; go_big_quiet_op; go_big_quiet_on)
    (go_big_quiet_want; go_big_quiet_op; go_big_quiet_on)
    (go_big_quiet_want; refine q_int _ rfl w.heap.size 2 _ rfl x2 ?_; simp only [Act.put, List.setIfInBounds_toArray, List.set_cons_succ, List.set_cons_zero]; go_big_quiet_on)
    (go_big_quiet_want; go_big_quiet_op; go_big_quiet_call (exact kp_call (C3.out _)))
    (go_big_quiet_want; go_big_quiet_op; go_big_quiet_on)
    (go_big_quiet_want; go_big_quiet_op; go_big_quiet_on)
    (go_big_quiet_want; refine q_int _ rfl w.heap.size 3 _ rfl x3 ?_; simp only [Act.put, List.setIfInBounds_toArray, List.set_cons_succ, List.set_cons_zero]; go_big_quiet_on)
    (go_big_quiet_want; go_big_quiet_op; go_big_quiet_call (exact kp_call (C4.out _)))
    (go_big_quiet_want; go_big_quiet_op; go_big_quiet_on)
    (go_big_quiet_want; go_big_quiet_op; go_big_quiet_on)
    (go_big_quiet_want; refine q_int _ rfl w.heap.size 13 _ rfl x13 ?_; simp only [Act.put, List.setIfInBounds_toArray, List.set_cons_succ, List.set_cons_zero]; go_big_quiet_on)
    (go_big_quiet_want; go_big_quiet_op; go_big_quiet_call (exact kp_call (C5.out _)))
    (go_big_quiet_want; go_big_quiet_op; go_big_quiet_on)
    (go_big_quiet_want; go_big_quiet_op; go_big_quiet_on)
    refine wpQuiet_nil ?_
    rintro _ ⟨x, rfl⟩
    have K2 := Lib.hid (x.bk K1.out); have B2 := Lib.hid (B1.out.trans (x.2.mono B1.out.size))
    generalize x.1 = w2 at *
    clear x0 x1 x2 x3 x13 n0 n1 n2 n3 K1 B1 C1 C2 C3 C4 C5
    rw [← HEAD.out] at *
    have U0' := U0.out
    generalize r.head = hd at *
    generalize hub : r.u.bytes = ub at *
    generalize Oct.str r.ni 1 = t6 at *
    generalize Oct.str r.nl 1 = t7 at *
    have f0 : ¬ 9223372036854775807 < hd.size + ub.size := by omega
    have f1 : ¬ 9223372036854775807 < hd.size + ub.size + t6.size := by omega
    have HUB := Lib.hid hub
    clear hub s1 s2 s3 s4 s5 s6 s8 s9 s10 s11 HEAD
    go_wp2_with (refine wpList_load_part 25 _ rfl (by first | rfl | kernel_rfl) w.heap.size 4 r.u.cs rfl (rc_undo (by have := K2.out; rw [← HCS.out] at this; exact this)) ?_)
    refine (CU.out _).mono ?_
    rintro e w3 ⟨rfl, hb3⟩
    have K3 := Lib.hid (K2.out.kept hb3); have B3 := Lib.hid (below_then B2.out hb3 B2.out.size)
    have x11 := K3.out.cell 11
    simp only [List.getElem?_toArray, List.getElem?_cons_zero, List.getElem?_cons_succ] at x11
    clear hb3 K2 B2 CU
    go_wp2_with fail
    refine (CN.out _).mono ?_
    rintro e w4 ⟨rfl, hb4⟩
    have K4 := Lib.hid (K3.out.kept hb4); have B4 := Lib.hid (below_then B3.out hb4 B3.out.size)
    have x11' := K4.out.cell 11
    simp only [List.getElem?_toArray, List.getElem?_cons_zero, List.getElem?_cons_succ] at x11'
    clear hb4 K3 B3 CN x11
    go_wp2_with fail
    rw [← U0']
    clear x11' f0 f1 U0' U0
    go_loopw [5, 50] (fun s i wr => ∃ j : Nat, j ≤ r.ni ∧ i = .int .i64 j ∧ s = .string (r.upI j) ∧ Below w.heap.size w wr ∧ Below w4.heap.size w4 wr) (fun _ i _ => r.ni - (intOf i).toNat)
    case atStart => exact ⟨0, Nat.zero_le _, rfl, rfl, B4.out, Below.refl _ _⟩
    case round =>
      clear B4
      obtain ⟨j, hj, rfl, rfl, hb, hb'⟩ := hrel
      have HB := Lib.hid hb; have HB' := Lib.hid hb'
      clear hb hb'
      by_cases hlt : j < r.ni
      · obtain ⟨b, off, rfl, hbB, hcell⟩ := HI.out (by omega)
        have hld : (loadVar 51 ⟨b, off + j * 17, none⟩).run Try.prog wr = .ok (.agg (r.im j).cs) wr :=
          part_load Try.underlying51 wr b (off + j * 17) (r.im j).cs image_info fun q u hq => by
            rw [HB.out.cell (p := ⟨b, off + j * 17 + q, none⟩) hbB]; exact hcell j hlt q u hq
        have hok := IMG.out j hlt
        have sz := S1.out j hj
        have us := US.out j
        have HLD := Lib.hid hld
        clear hcell hld
        generalize r.upI j = uj at *
        generalize huj : r.upI (j + 1) = uj' at *
        have HUJ := Lib.hid huj
        clear huj
        generalize hm : r.im j = m at *
        have HM := Lib.hid hm
        clear hm
        have K5 := Lib.hid (Bk.new wr 51 m.cs)
        have B5 := Lib.hid (HB.out.alloc HB.out.size (.cells m.cs 51)); have B5' := Lib.hid (HB'.out.alloc HB'.out.size (.cells m.cs 51))
        have ce := fun w => encode_good m.p w hok.2
        have ci := fun w => lnum4 m.id w hok.1.1 (by have := hok.1.2; omega)
        have pz := Pg.bytes_size hok.2
        have iz : (Oct.str m.id.toNat 4).size = 4 := Oct.str_size _ _
        unfold Pg.v at ce
        generalize m.p.bytes = pb at *
        generalize Oct.str m.id.toNat 4 = ib at *
        have CE := Lib.hid ce; have CI := Lib.hid ci; have USJ := Lib.hid us
        have f0 : ¬ 9223372036854775807 < ib.size + pb.size := by omega
        have f1 : ¬ 9223372036854775807 < uj.size + (ib.size + pb.size) := by
          obtain ⟨_, _, _, _, _, _, _, g8, g9, _⟩ := SZ.out
          omega
        clear ce ci hok us sz pz iz
        go_wp2_with (first
          | (refine wpList_load_part 51 _ rfl (by first | rfl | kernel_rfl) b (off + j * 17) m.cs rfl HLD.out ?_)
          | (refine store_im_new rfl _ _ rfl m rfl rfl ?_; have hpg := im_page K5.out; generalize (wr.alloc (.cells m.cs 51)) = w5 at K5 B5 B5' hpg ⊢; have HPG := Lib.hid hpg; clear hpg)
          | (refine wpList_load_part 49 _ rfl (by first | rfl | kernel_rfl) wr.heap.size 1 m.p.cs rfl HPG.out ?_))
        refine (CE.out _).mono ?_
        rintro e w6 ⟨rfl, hb6⟩
        have x0 : w6.cell? ⟨wr.heap.size, 0, none⟩ = some (.int .i64 m.id) := (K5.out.kept hb6).cell 0
        have B6 := Lib.hid (below_then B5.out hb6 B5.out.size); have B6' := Lib.hid (below_then B5'.out hb6 B5'.out.size)
        clear hb6 K5 B5 B5' CE
        go_wp2_with fail
        refine (CI.out _).mono ?_
        rintro e w7 ⟨rfl, hb7⟩
        have B7 := Lib.hid (below_then B6.out hb7 B6.out.size); have B7' := Lib.hid (below_then B6'.out hb7 B6'.out.size)
        clear hb7 B6 B6' CI x0
        go_wp2
        go_roundw
        case rel => exact ⟨j + 1, by omega, by go_num, by rw [HUJ.out, USJ.out], B7.out, B7'.out⟩
        case measure => simp [intOf]; omega
      · have x12 := (K4.out.kept HB'.out).cell 12
        simp only [List.getElem?_toArray, List.getElem?_cons_zero, List.getElem?_cons_succ] at x12
        have K6 := Lib.hid (K4.out.kept HB'.out)
        have sz := S1.out r.ni (Nat.le_refl _)
        have HJ := Lib.hid (show j = r.ni by omega)
        have hup : r.upI j = r.upI r.ni := by rw [HJ.out]
        rw [hup]
        have L0' := L0.out
        generalize r.upI r.ni = ui at *
        have f0 : ¬ 9223372036854775807 < ui.size + t7.size := by
          obtain ⟨_, _, _, _, _, _, g7, g8, g9, _⟩ := SZ.out
          have g0 := KI.out
          omega
        clear hup sz K4 HB'
        go_wp2_with fail
        refine (CM.out _).mono ?_
        rintro e w7 ⟨rfl, hb7⟩
        have x12' := (K6.out.kept hb7).cell 12
        simp only [List.getElem?_toArray, List.getElem?_cons_zero, List.getElem?_cons_succ] at x12'
        have B7 := Lib.hid (below_then HB.out hb7 HB.out.size)
        clear hb7 x12 K6 HB CM
        go_wp2_with fail
        rw [← L0']
        clear x12' f0 L0' L0 hlt hj
        go_loopw [5, 80] (fun s i wr => ∃ j : Nat, j ≤ r.nl ∧ i = .int .i64 j ∧ s = .string (r.upL j) ∧ Below w.heap.size w wr) (fun _ i _ => r.nl - (intOf i).toNat)
        case atStart => exact ⟨0, Nat.zero_le _, rfl, rfl, B7.out⟩
        case round =>
          clear B7
          obtain ⟨j, hj, rfl, rfl, hb⟩ := hrel
          have HB := Lib.hid hb
          clear hb
          by_cases hlt : j < r.nl
          · obtain ⟨b, off, rfl, hbB, hcell⟩ := HL.out (by omega)
            have q0 : wr.cell? ⟨b, off + j * 3, none⟩ = some (.int .i64 (r.al j).x) := by rw [HB.out.cell (p := ⟨b, off + j * 3, none⟩) hbB]; exact hcell j hlt 0 _ rfl
            have q1 : wr.cell? ⟨b, off + j * 3 + 1, none⟩ = some (.int .i64 (r.al j).f) := by rw [HB.out.cell (p := ⟨b, off + j * 3 + 1, none⟩) hbB]; exact hcell j hlt 1 _ rfl
            have q2 : wr.cell? ⟨b, off + j * 3 + 2, none⟩ = some (.int .i64 (r.al j).l) := by rw [HB.out.cell (p := ⟨b, off + j * 3 + 2, none⟩) hbB]; exact hcell j hlt 2 _ rfl
            have hok := ALV.out j hlt
            have sz := S2.out j hj
            have us := LS.out j
            clear hcell
            generalize r.upL j = uj at *
            generalize huj : r.upL (j + 1) = uj' at *
            have HUJ := Lib.hid huj
            clear huj
            generalize hm : r.al j = m at *
            have HM := Lib.hid hm
            clear hm
            obtain ⟨mx, mf, ml⟩ := m
            obtain ⟨⟨o1, o2⟩, ⟨o3, o4⟩, ⟨o5, o6⟩⟩ := hok
            dsimp only at q0 q1 q2 us o1 o2 o3 o4 o5 o6
            have d1 := fun w => lnum4 mx w o1 (by omega); have d2 := fun w => lnum8 mf w o3 (by omega); have d3 := fun w => lnum8 ml w o5 (by omega)
            have i1 : (Oct.str mx.toNat 4).size = 4 := Oct.str_size _ _
            have i2 : (Oct.str mf.toNat 8).size = 8 := Oct.str_size _ _
            have i3 : (Oct.str ml.toNat 8).size = 8 := Oct.str_size _ _
            generalize Oct.str mx.toNat 4 = b1 at *
            generalize Oct.str mf.toNat 8 = b2 at *
            generalize Oct.str ml.toNat 8 = b3 at *
            have D1 := Lib.hid d1; have D2 := Lib.hid d2; have D3 := Lib.hid d3; have USJ := Lib.hid us
            have hs : uj.size + (b1.size + b2.size + b3.size) ≤ 100000 := by have := KI.out; have := KL.out; have := SZ.out.2.2.2.2.2.2.2.1; have := SZ.out.2.2.2.2.2.2.2.2.1; omega
            have HS := Lib.hid hs
            have B8 := Lib.hid (HB.out.alloc HB.out.size (.cells #[.int .i64 mx, .int .i64 mf, .int .i64 ml] 54))
            have K8 := Lib.hid (Bk.new wr 54 #[.int .i64 mx, .int .i64 mf, .int .i64 ml])
            clear d1 d2 d3 us sz o1 o2 o3 o4 o5 o6 i1 i2 i3 hs
            go_wp2_with fail
            have y0 := K8.out.cell 0; have y1 := K8.out.cell 1; have y2 := K8.out.cell 2
            simp only [List.getElem?_toArray, List.getElem?_cons_zero, List.getElem?_cons_succ] at y0 y1 y2
            generalize (wr.alloc (.cells #[.int .i64 mx, .int .i64 mf, .int .i64 ml] 54)) = w8 at *
            have hs := HS.out
            have n0 : ¬ 9223372036854775807 < b1.size + b2.size := by omega
            have n1 : ¬ 9223372036854775807 < b1.size + b2.size + b3.size := by omega
            have n2 : ¬ 9223372036854775807 < uj.size + (b1.size + b2.size + b3.size) := by omega
            clear hs q0 q1 q2
            refine wp_region_kept (by kernel_rfl) (by kernel_rfl) ?_
            (go_big_quiet_want; go_big_quiet_op; go_big_quiet_on)
            (go_big_quiet_want; go_big_quiet_op; go_big_quiet_on)
            (go_big_quiet_want; refine q_int _ rfl wr.heap.size 0 _ rfl y0 ?_; simp only [Act.put, List.setIfInBounds_toArray, List.set_cons_succ, List.set_cons_zero]; go_big_quiet_on)
            (go_big_quiet_want; go_big_quiet_op; go_big_quiet_call (exact kp_call (D1.out _)))
            (go_big_quiet_want; go_big_quiet_op; go_big_quiet_on)
            (go_big_quiet_want; refine q_int _ rfl wr.heap.size 1 _ rfl y1 ?_; simp only [Act.put, List.setIfInBounds_toArray, List.set_cons_succ, List.set_cons_zero]; go_big_quiet_on)
            (go_big_quiet_want; go_big_quiet_op; go_big_quiet_call (exact kp_call (D2.out _)))
            (go_big_quiet_want; go_big_quiet_op; go_big_quiet_on)
            (go_big_quiet_want; go_big_quiet_op; go_big_quiet_on)
            (go_big_quiet_want; refine q_int _ rfl wr.heap.size 2 _ rfl y2 ?_; simp only [Act.put, List.setIfInBounds_toArray, List.set_cons_succ, List.set_cons_zero]; go_big_quiet_on)
            (go_big_quiet_want; go_big_quiet_op; go_big_quiet_call (exact kp_call (D3.out _)))
            (go_big_quiet_want; go_big_quiet_op; go_big_quiet_on)
            (go_big_quiet_want; go_big_quiet_op; go_big_quiet_on)
            (go_big_quiet_want; go_big_quiet_op; go_big_quiet_on)
            refine wpQuiet_nil ?_
            rintro _ ⟨x, rfl⟩
            have B9 := Lib.hid (B8.out.trans (x.2.mono B8.out.size))
            clear y0 y1 y2 n0 n1 n2
            go_wp2_with fail
            go_roundw
            case rel => exact ⟨j + 1, by omega, by go_num, by rw [HUJ.out, USJ.out], B9.out⟩
            case measure => simp [intOf]; omega
          · have HJ2 := Lib.hid (show r.upL j = r.bytes by rw [FIN.out, show j = r.nl by omega])
            go_wp2
            go_ret2
            exact ⟨by rw [← HJ2.out]; rfl, HB.out⟩
  · exact absurd HH.out hno

theorem lencode_any (r : Rc) (vi vl : Value) (w : World) (hI : ImAt w w.heap.size vi r.ni r.im) (hL : AlAt w w.heap.size vl r.nl r.al) :
    Calls Try.prog 9 #[.agg (r.cs vi vl)] w fun e w' => ((e = .returned (.tuple #[.string r.bytes, .int .i64 0]) ∧ r.ok) ∨ (e = .returned (.tuple #[.string ⟨#[]⟩, .int .i64 1]) ∧ ¬ r.ok)) ∧ Below w.heap.size w w' := by
  by_cases h : r.ok
  · exact (lencode_good r vi vl w h hI hL).mono fun e w' ⟨he, hb⟩ => ⟨.inl ⟨he, h⟩, hb⟩
  · exact (lencode_bad r vi vl w h hI hL).mono fun e w' ⟨he, hb⟩ => ⟨.inr ⟨he, h⟩, hb⟩
end Go.Proofs.Ytggabnmfjooejaa
