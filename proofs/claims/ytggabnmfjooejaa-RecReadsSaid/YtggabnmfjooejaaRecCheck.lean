/- The walk of logrec.Check. -/
import Derived.Test.YtggabnmfjooejaaRecMem
set_option linter.unusedVariables false
set_option linter.unusedSimpArgs false
namespace Go.Proofs.Ytggabnmfjooejaa
open Go.RowKit Go.BigFrame

def Rc.c1 (r : Rc) : Prop := 1 ≤ r.k ∧ r.k ≤ 6 ∧ isNum r.x ∧ isNum r.fr
def Rc.c2 (r : Rc) : Prop := isPl r.pv ∧ isPl r.nx ∧ r.u.ok
def Rc.c3 (r : Rc) : Prop := r.ni ≤ 24 ∧ r.nl ≤ 8
theorem rc_undo {w : World} {g : Nat} {r : Rc} {vi vl : Value} (h : Bk w g 29 (r.cs vi vl)) : (loadVar 25 ⟨g, 4, none⟩).run Try.prog w = .ok (.agg r.u.cs) w :=
  part_load Try.underlying25 w g 4 r.u.cs (by kernel_rfl) fun j u hj => by
    rw [h.cell, Nat.add_comm]
    have hl : j < 7 := by have := (List.getElem?_eq_some_iff.1 hj).1; simpa [Un.cs] using this
    have : j = 0 ∨ j = 1 ∨ j = 2 ∨ j = 3 ∨ j = 4 ∨ j = 5 ∨ j = 6 := by omega
    rcases this with rfl | rfl | rfl | rfl | rfl | rfl | rfl <;> exact hj

set_option maxRecDepth 100000 in
set_option maxHeartbeats 2000000 in
theorem check_loops (r : Rc) (vi vl : Value) (w : World) (h1 : r.c1) (h2 : r.c2) (h3 : r.c3) (hI : ImAt w w.heap.size vi r.ni r.im) (hL : AlAt w w.heap.size vl r.nl r.al) :
    Calls Try.prog 11 #[.agg (r.cs vi vl)] w fun e w' => ((e = .returned (.int .i64 0) ∧ (∀ i, i < r.ni → (r.im i).ok) ∧ ∀ i, i < r.nl → (r.al i).ok) ∨ (e = .returned (.int .i64 1) ∧ ¬ ((∀ i, i < r.ni → (r.im i).ok) ∧ ∀ i, i < r.nl → (r.al i).ok))) ∧ Below w.heap.size w w' := by
  obtain ⟨k1, k2, kx, kf⟩ := h1
  obtain ⟨kp, kn, ku⟩ := h2
  obtain ⟨ki, kl⟩ := h3
  have c1 := fun w => isNumber_any r.x w; have c2 := fun w => isNumber_any r.fr w; have c3 := fun w => isPlace_any r.pv w; have c4 := fun w => isPlace_any r.nx w
  rw [decide_eq_true kx] at c1
  rw [decide_eq_true kf] at c2
  rw [decide_eq_true kp] at c3
  rw [decide_eq_true kn] at c4
  have C1 := Lib.hid c1; have C2 := Lib.hid c2; have C3 := Lib.hid c3; have C4 := Lib.hid c4; have C5 := Lib.hid (fun w => isUndo_good r.u w ku)
  have K0 := Lib.hid (Bk.new w 29 (r.cs vi vl))
  have B0 := Lib.hid ((Below.refl w.heap.size w).alloc (Nat.le_refl _) (.cells (r.cs vi vl) 29))
  obtain ⟨ai, ci, rfl, hmi, hI⟩ := hI
  obtain ⟨al, cl, rfl, hml, hL⟩ := hL
  have HI := Lib.hid hI; have HL := Lib.hid hL
  have e1 : ¬ r.k < 1 := by omega
  have e2 : ¬ 6 < r.k := by omega
  have e3 : ¬ (24 : Int) < (r.ni : Int) := by omega
  have e4 : ¬ (8 : Int) < (r.nl : Int) := by omega
  clear kx kf kp kn ku hI hL c1 c2 c3 c4 hmi hml
  generalize hcs : r.cs (.slice ai r.ni ci) (.slice al r.nl cl) = cs at *
  have hcs' := hcs
  have HCS := Lib.hid hcs'
  unfold Rc.cs at hcs
  subst hcs
  go_enter Try.func11, Try.ntmps11
  go_wp2_with fail
  refine (C1.out _).mono ?_
  rintro e w1 ⟨rfl, rfl⟩
  go_wp2_with fail
  refine (C2.out _).mono ?_
  rintro e w1 ⟨rfl, rfl⟩
  go_wp2_with fail
  refine (C3.out _).mono ?_
  rintro e w1 ⟨rfl, rfl⟩
  go_wp2_with fail
  refine (C4.out _).mono ?_
  rintro e w1 ⟨rfl, rfl⟩
  go_wp2_with (refine wpList_load_part 25 _ rfl (by first | rfl | kernel_rfl) w.heap.size 4 r.u.cs rfl (rc_undo (by have := K0.out; rw [← HCS.out] at this; exact this)) ?_)
  refine (C5.out _).mono ?_
  rintro e w2 ⟨rfl, hb2⟩
  have k2 := K0.out.kept hb2
  have K2 := Lib.hid k2
  have B2 := Lib.hid (below_then B0.out hb2 (by have := B0.out.size; exact this))
  have x11 := k2.cell 11; have x12 := k2.cell 12
  simp only [List.getElem?_toArray, List.getElem?_cons_zero, List.getElem?_cons_succ] at x11 x12
  clear hb2 C1 C2 C3 C4 C5 k2 K0 B0 HCS hcs'
  go_wp2_with fail
  clear x11 x12 e1 e2 e3 e4
  go_loopw [56] (fun i wr => ∃ j : Nat, j ≤ r.ni ∧ i = .int .i64 j ∧ (∀ q, q < j → (r.im q).ok) ∧ Below w.heap.size w wr ∧ Below w2.heap.size w2 wr) (fun i _ => r.ni - (intOf i).toNat)
  case atStart => exact ⟨0, Nat.zero_le _, rfl, (fun q hq => absurd hq (Nat.not_lt_zero _)), B2.out, Below.refl _ _⟩
  case round =>
    clear B2
    obtain ⟨j, hj, rfl, hall, hb, hb'⟩ := hrel
    have HB := Lib.hid hb; have HB' := Lib.hid hb'; have ALL := Lib.hid hall
    clear hb hb' hall
    by_cases hlt : j < r.ni
    · obtain ⟨b, off, rfl, hbB, hcell⟩ := HI.out (by omega)
      have hld : (loadVar 51 ⟨b, off + j * 17, none⟩).run Try.prog wr = .ok (.agg (r.im j).cs) wr :=
        part_load Try.underlying51 wr b (off + j * 17) (r.im j).cs image_info fun q u hq => by
          rw [HB.out.cell (p := ⟨b, off + j * 17 + q, none⟩) hbB]; exact hcell j hlt q u hq
      have STEP := Lib.hid (fun (h : (r.im j).ok) (q : Nat) (hq : q < j + 1) => show (r.im q).ok by
        rcases Nat.lt_or_ge q j with h1 | h1
        · exact ALL.out q h1
        · obtain rfl : q = j := by omega
          exact h)
      have BAD := Lib.hid (fun (h : ¬ (r.im j).ok) => show ¬ ((∀ i, i < r.ni → (r.im i).ok) ∧ ∀ i, i < r.nl → (r.al i).ok) from fun hf => h (hf.1 j hlt))
      have HLD := Lib.hid hld
      clear hcell ALL hld
      generalize hm : r.im j = m at *
      have HM := Lib.hid hm
      clear hm
      have K1 := Lib.hid (Bk.new wr 51 m.cs)
      have B1 := Lib.hid (HB.out.alloc HB.out.size (.cells m.cs 51)); have B1' := Lib.hid (HB'.out.alloc HB'.out.size (.cells m.cs 51))
      have ci := fun w => isPage_any m.id w
      have cp := fun w => check_any m.p w
      unfold Pg.v at cp
      have CP := Lib.hid cp
      by_cases hid : isPgn m.id
      · rw [decide_eq_true hid] at ci
        have CI := Lib.hid ci
        have HID := Lib.hid hid
        clear ci cp hid
        go_wp2_with (first
          | (refine wpList_load_part 51 _ rfl (by first | rfl | kernel_rfl) b (off + j * 17) m.cs rfl HLD.out ?_)
          | (refine store_im_new rfl _ _ rfl m rfl rfl ?_; have x0 := K1.out.cell 0; have hpg := im_page K1.out; generalize (wr.alloc (.cells m.cs 51)) = w3 at K1 B1 B1' x0 hpg ⊢; have x0' : w3.cell? ⟨wr.heap.size, 0, none⟩ = some (.int .i64 m.id) := x0; have HPG := Lib.hid hpg; clear x0 hpg))
        refine (CI.out _).mono ?_
        rintro e w4 ⟨rfl, rfl⟩
        go_wp2_with (refine wpList_load_part 49 _ rfl (by first | rfl | kernel_rfl) wr.heap.size 1 m.p.cs rfl HPG.out ?_)
        refine (CP.out _).mono ?_
        rintro e w5 ⟨rfl, hb5⟩
        have B5 := Lib.hid (below_then B1.out hb5 B1.out.size); have B5' := Lib.hid (below_then B1'.out hb5 B1'.out.size)
        clear hb5 x0'
        by_cases hok : m.p.ok
        · have ST := Lib.hid (STEP.out ⟨HID.out, hok⟩)
          rw [Pg.err_ok hok]
          clear hok STEP BAD
          go_wp2
          go_roundw
          case rel => exact ⟨j + 1, by omega, by go_num, ST.out, B5.out, B5'.out⟩
          case measure => simp [intOf]; omega
        · have BD := Lib.hid (BAD.out (fun h => hok h.2))
          rw [Pg.err_no hok]
          clear hok STEP BAD
          go_wp2
          go_ret
          exact ⟨.inr ⟨rfl, BD.out⟩, B5.out⟩
      · have BD := Lib.hid (BAD.out (fun h => hid h.1))
        rw [decide_eq_false hid] at ci
        have CI := Lib.hid ci
        clear ci cp hid STEP BAD
        go_wp2_with (first
          | (refine wpList_load_part 51 _ rfl (by first | rfl | kernel_rfl) b (off + j * 17) m.cs rfl HLD.out ?_)
          | (refine store_im_new rfl _ _ rfl m rfl rfl ?_; have x0 := K1.out.cell 0; generalize (wr.alloc (.cells m.cs 51)) = w3 at K1 B1 B1' x0 ⊢; have x0' : w3.cell? ⟨wr.heap.size, 0, none⟩ = some (.int .i64 m.id) := x0; clear x0))
        refine (CI.out _).mono ?_
        rintro e w4 ⟨rfl, rfl⟩
        go_wp2
        go_ret
        exact ⟨.inr ⟨rfl, BD.out⟩, B1.out⟩
    · have k3 := K2.out.kept HB'.out
      have x12 := k3.cell 12
      simp only [List.getElem?_toArray, List.getElem?_cons_zero, List.getElem?_cons_succ] at x12
      have IMG := Lib.hid (show ∀ i, i < r.ni → (r.im i).ok from fun i hi => ALL.out i (by omega))
      have B3 := Lib.hid HB.out
      clear HI K2 k3 ALL HB'
      go_wp2_with fail
      clear x12 hlt hj HB
      go_loopw [74] (fun i wr => ∃ j : Nat, j ≤ r.nl ∧ i = .int .i64 j ∧ (∀ q, q < j → (r.al q).ok) ∧ Below w.heap.size w wr) (fun i _ => r.nl - (intOf i).toNat)
      case atStart => exact ⟨0, Nat.zero_le _, rfl, (fun q hq => absurd hq (Nat.not_lt_zero _)), B3.out⟩
      case round =>
        clear B3
        obtain ⟨j, hj, rfl, hall, hb⟩ := hrel
        have HB := Lib.hid hb; have ALL := Lib.hid hall
        clear hb hall
        by_cases hlt : j < r.nl
        · obtain ⟨b, off, rfl, hbB, hcell⟩ := HL.out (by omega)
          have q0 : wr.cell? ⟨b, off + j * 3, none⟩ = some (.int .i64 (r.al j).x) := by rw [HB.out.cell (p := ⟨b, off + j * 3, none⟩) hbB]; exact hcell j hlt 0 _ rfl
          have q1 : wr.cell? ⟨b, off + j * 3 + 1, none⟩ = some (.int .i64 (r.al j).f) := by rw [HB.out.cell (p := ⟨b, off + j * 3 + 1, none⟩) hbB]; exact hcell j hlt 1 _ rfl
          have q2 : wr.cell? ⟨b, off + j * 3 + 2, none⟩ = some (.int .i64 (r.al j).l) := by rw [HB.out.cell (p := ⟨b, off + j * 3 + 2, none⟩) hbB]; exact hcell j hlt 2 _ rfl
          have STEP := Lib.hid (fun (h : (r.al j).ok) (q : Nat) (hq : q < j + 1) => show (r.al q).ok by
            rcases Nat.lt_or_ge q j with h1 | h1
            · exact ALL.out q h1
            · obtain rfl : q = j := by omega
              exact h)
          have BAD := Lib.hid (fun (h : ¬ (r.al j).ok) => show ¬ ((∀ i, i < r.ni → (r.im i).ok) ∧ ∀ i, i < r.nl → (r.al i).ok) from fun hf => h (hf.2 j hlt))
          clear hcell ALL
          generalize hm : r.al j = m at *
          have HM := Lib.hid hm
          clear hm
          obtain ⟨mx, mf, ml⟩ := m
          simp only at q0 q1 q2
          have B1 := Lib.hid (HB.out.alloc HB.out.size (.cells #[.int .i64 mx, .int .i64 mf, .int .i64 ml] 54))
          have K1 := Lib.hid (Bk.new wr 54 #[.int .i64 mx, .int .i64 mf, .int .i64 ml])
          have c1 := fun w => isNumber_any mx w; have c2 := fun w => isPlace_any mf w; have c3 := fun w => isPlace_any ml w
          by_cases o1 : isNum mx
          · rw [decide_eq_true o1] at c1
            by_cases o2 : isPl mf
            · rw [decide_eq_true o2] at c2
              by_cases o3 : isPl ml
              · rw [decide_eq_true o3] at c3
                have C1 := Lib.hid c1; have C2 := Lib.hid c2; have C3 := Lib.hid c3
                have ST := Lib.hid (STEP.out ⟨o1, o2, o3⟩)
                clear c1 c2 c3 o1 o2 o3 STEP BAD
                go_wp2_with fail
                refine (C1.out _).mono ?_
                rintro e w4 ⟨rfl, rfl⟩
                go_wp2_with fail
                refine (C2.out _).mono ?_
                rintro e w4 ⟨rfl, rfl⟩
                go_wp2_with fail
                refine (C3.out _).mono ?_
                rintro e w4 ⟨rfl, rfl⟩
                go_wp2
                go_roundw
                case rel => exact ⟨j + 1, by omega, by go_num, ST.out, B1.out⟩
                case measure => simp [intOf]; omega
              · have BD := Lib.hid (BAD.out (fun h => o3 h.2.2))
                rw [decide_eq_false o3] at c3
                have C1 := Lib.hid c1; have C2 := Lib.hid c2; have C3 := Lib.hid c3
                clear c1 c2 c3 o1 o2 o3 STEP BAD
                go_wp2_with fail
                refine (C1.out _).mono ?_
                rintro e w4 ⟨rfl, rfl⟩
                go_wp2_with fail
                refine (C2.out _).mono ?_
                rintro e w4 ⟨rfl, rfl⟩
                go_wp2_with fail
                refine (C3.out _).mono ?_
                rintro e w4 ⟨rfl, rfl⟩
                go_wp2
                go_ret
                exact ⟨.inr ⟨rfl, BD.out⟩, B1.out⟩
            · have BD := Lib.hid (BAD.out (fun h => o2 h.2.1))
              rw [decide_eq_false o2] at c2
              have C1 := Lib.hid c1; have C2 := Lib.hid c2
              clear c1 c2 c3 o1 o2 STEP BAD
              go_wp2_with fail
              refine (C1.out _).mono ?_
              rintro e w4 ⟨rfl, rfl⟩
              go_wp2_with fail
              refine (C2.out _).mono ?_
              rintro e w4 ⟨rfl, rfl⟩
              go_wp2
              go_ret
              exact ⟨.inr ⟨rfl, BD.out⟩, B1.out⟩
          · have BD := Lib.hid (BAD.out (fun h => o1 h.1))
            rw [decide_eq_false o1] at c1
            have C1 := Lib.hid c1
            clear c1 c2 c3 o1 STEP BAD
            go_wp2_with fail
            refine (C1.out _).mono ?_
            rintro e w4 ⟨rfl, rfl⟩
            go_wp2
            go_ret
            exact ⟨.inr ⟨rfl, BD.out⟩, B1.out⟩
        · have ALV := Lib.hid (show ∀ i, i < r.nl → (r.al i).ok from fun i hi => ALL.out i (by omega))
          clear ALL
          go_wp2
          go_ret
          exact ⟨.inl ⟨rfl, IMG.out, ALV.out⟩, HB.out⟩
end Go.Proofs.Ytggabnmfjooejaa
