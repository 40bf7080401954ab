/- The walk of package node: Check. -/
import Derived.Test.YtelbioooggnbiaaGreatNodCheckPlain
import Derived.Deep.RegionHeld3
set_option linter.unusedVariables false
set_option linter.unusedSimpArgs false
namespace Go.Proofs.YtelbioooggnbiaaGreat
open Go.RowKit

theorem pg_cells {w : World} {g : Nat} {p : Pg} (h : Bk w g 38 p.cs) :
    w.cell? ⟨g, 4, none⟩ = some (.int .i64 (p.c 0).st) ∧ w.cell? ⟨g, 5, none⟩ = some (.string (p.c 0).d) ∧ w.cell? ⟨g, 6, none⟩ = some (.int .i64 (p.c 1).st) ∧ w.cell? ⟨g, 7, none⟩ = some (.string (p.c 1).d)
    ∧ w.cell? ⟨g, 8, none⟩ = some (.int .i64 (p.c 2).st) ∧ w.cell? ⟨g, 9, none⟩ = some (.string (p.c 2).d) ∧ w.cell? ⟨g, 10, none⟩ = some (.int .i64 (p.c 3).st) ∧ w.cell? ⟨g, 11, none⟩ = some (.string (p.c 3).d)
    ∧ w.cell? ⟨g, 12, none⟩ = some (.int .i64 (p.c 4).st) ∧ w.cell? ⟨g, 13, none⟩ = some (.string (p.c 4).d) ∧ w.cell? ⟨g, 14, none⟩ = some (.int .i64 (p.c 5).st) ∧ w.cell? ⟨g, 15, none⟩ = some (.string (p.c 5).d) :=
  ⟨h.cell 4, h.cell 5, h.cell 6, h.cell 7, h.cell 8, h.cell 9, h.cell 10, h.cell 11, h.cell 12, h.cell 13, h.cell 14, h.cell 15⟩
def headOk (p : Pg) : Prop := p.k = 4 ∧ 0 ≤ p.l ∧ (0 < p.l → cnt p.c ≠ 0)
set_option maxHeartbeats 2000000 in
theorem ncheck_head (p : Pg) (w : World) (h : ¬ headOk p) :
    Calls Tryz.prog 95 #[p.v] w fun e w' => e = .returned (.int .i64 40) ∧ Below w.heap.size w w' := by
  have CC := Lib.hid (fun w => ncount_any p w)
  unfold headOk at h
  generalize cnt p.c = n at *
  unfold Pg.v
  go_enter Tryz.func95, Tryz.ntmps95
  go_wp2_with (refine load_page rfl _ rfl w.heap.size p rfl (Bk.new _ _ _) ?_)
  refine (CC.out _).mono ?_
  rintro e w2 ⟨rfl, hb2⟩
  have K2 := Lib.hid ((Bk.new w 38 p.cs).kept hb2)
  have B2 := Lib.hid (below_then ((Below.refl _ _).alloc (Nat.le_refl _) (.cells p.cs 38)) hb2 (by simp))
  obtain ⟨x0, x1, _, _⟩ := pg_head K2.out
  clear hb2 CC K2
  by_cases h1 : p.k = 4
  · have h1' : (p.k != 4) = false := by simp [h1]
    by_cases h2 : p.l < 0
    · clear h h1
      go_wp2
      go_ret
      exact ⟨rfl, B2.out⟩
    · have h3 : 0 < p.l := by
        by_cases h3 : 0 < p.l
        · exact h3
        · exact absurd ⟨h1, by omega, fun k => absurd k h3⟩ h
      have h4 : n = 0 := by
        by_cases h4 : n = 0
        · exact h4
        · exact absurd ⟨h1, by omega, fun _ => h4⟩ h
      subst h4
      clear h h1
      go_wp2
      go_ret
      exact ⟨rfl, B2.out⟩
  · have h1' : (p.k != 4) = true := by simp [h1]
    clear h h1
    go_wp2
    go_ret
    exact ⟨rfl, B2.out⟩
theorem held_cells {w : World} {g gc : Nat} {p : Pg} {a b : Value} (h : Bk w g 38 p.cs) (hc : Bk w gc 35 #[a, b]) (i : Nat) {j : Nat} (hi : j = i + 1) (hj : j < 6) : w.cell? ⟨g, 4 + i * 2, none⟩ = some (.int .i64 (p.c i).st) ∧ w.cell? ⟨g, 4 + i * 2 + 1, none⟩ = some (.string (p.c i).d) ∧ w.cell? ⟨gc, 0, none⟩ = some a ∧ w.cell? ⟨gc, 1, none⟩ = some b :=
  ⟨(pg_cell h i (by omega)).1, (pg_cell h i (by omega)).2, hc.cell 0, hc.cell 1⟩
set_option maxRecDepth 100000 in
set_option maxHeartbeats 4000000 in
theorem check_leaf (p : Pg) (w : World) (hs : Sz p.c) (h : headOk p) (hl : p.l = 0) :
    Calls Tryz.prog 95 #[p.v] w fun e w' => e = .returned (.int .i64 (nodeE p)) ∧ Below w.heap.size w w' := by
  have CC := Lib.hid (fun w => ncount_any p w)
  have hok : (∀ q, q < 6 → okAt p q) → nodeE p = 0 := fun k => if_pos ⟨h, k⟩
  have hno : ∀ q, q < 6 → ¬ okAt p q → nodeE p = 40 := fun q hq k => if_neg fun k2 => k (k2.2 q hq)
  have HOK := Lib.hid hok; have HNO := Lib.hid hno
  have HS := Lib.hid hs
  clear hok hno hs
  have CO := Lib.hid (fun q (hq : cnt p.c ≤ q) => okAt_out hq)
  have CI := Lib.hid (fun q (hq : q < cnt p.c) => okAt_in hq)
  have CL := Lib.hid (fun q (hq : p.l = 0) => cellOk_leaf (q := q) hq)
  have CN := Lib.hid (fun q (hq : p.l ≠ 0) => cellOk_inner (q := q) hq)
  generalize nodeE p = E at *
  obtain ⟨h1, h2, h3⟩ := h
  have hn6 := cnt_le p.c
  have h1' : (p.k != 4) = false := by simp [h1]
  have h2' : ¬ p.l < 0 := by omega
  generalize cnt p.c = n at *
  have IX := Lib.hid (fun (j : Nat) (hj : j < 6) (w : World) => nidx6 p.c j hj w)
  unfold Pg.v
  go_enter Tryz.func95, Tryz.ntmps95
  go_wp2_with (refine load_page rfl _ rfl w.heap.size p rfl (Bk.new _ _ _) ?_)
  refine (CC.out _).mono ?_
  rintro e w2 ⟨rfl, hb2⟩
  have K2 := Lib.hid ((Bk.new w 38 p.cs).kept hb2)
  have B2 := Lib.hid (below_then ((Below.refl _ _).alloc (Nat.le_refl _) (.cells p.cs 38)) hb2 (by simp))
  obtain ⟨x0, x1, _, _⟩ := pg_head K2.out
  obtain ⟨y0, y1, y2, y3, y4, y5, y6, y7, y8, y9, y10, y11⟩ := pg_cells K2.out
  clear hb2 CC h1
  rw [hl] at x1
  go_wp2_with fail
  generalize (Value.agg #[.int .i64 (p.c 0).st, .string (p.c 0).d, .int .i64 (p.c 1).st, .string (p.c 1).d, .int .i64 (p.c 2).st, .string (p.c 2).d, .int .i64 (p.c 3).st, .string (p.c 3).d, .int .i64 (p.c 4).st, .string (p.c 4).d, .int .i64 (p.c 5).st, .string (p.c 5).d]) = AV at *
  clear y0 y1 y2 y3 y4 y5 y6 y7 y8 y9 y10 y11 x0 x1
  go_loopw [27] (fun x wr => ∃ j : Nat, j ≤ 6 ∧ x = .int .i64 j ∧ (∀ q, q < j → okAt p q) ∧ Bk wr w.heap.size 38 p.cs ∧ Below w.heap.size w wr) (fun x _ => 6 - (RowKit.intOf x).toNat)
  case atStart => exact ⟨0, by omega, rfl, (fun q hq => absurd hq (Nat.not_lt_zero _)), K2.out, B2.out⟩
  case round =>
    clear K2 B2
    obtain ⟨j, hj, rfl, hq, hk, hb⟩ := hrel
    have HQ := Lib.hid hq; have HK := Lib.hid hk; have HB := Lib.hid hb
    clear hq hk hb
    by_cases hlt : j < 6
    · have ix := IX.out j hlt
      have C3 := Lib.hid (Bk.new wr 35 #[.int .i64 (p.c j).st, .string (p.c j).d])
      have K3 := Lib.hid (HK.out.alloc (.cells #[.int .i64 (p.c j).st, .string (p.c j).d] 35))
      have B3 := Lib.hid (HB.out.alloc HB.out.size (.cells #[.int .i64 (p.c j).st, .string (p.c j).d] 35))
      clear HK HB
      by_cases hlt2 : j < n
      · have x1 := (pg_head K3.out).2.1
        rw [hl] at x1
        have cl := fun w => isleaf_any (p.c j) w (HS.out j hlt)
        have ck := fun w => keyof_any (p.c j) w (HS.out j hlt)
        have OKC0 := Lib.hid (show leafCellOk (p.c j) ↔ cellOk p j from (CL.out j hl).symm)
        unfold Ce.v at cl ck
        have CL1 := Lib.hid cl; have CK0 := Lib.hid ck
        clear cl ck
        generalize (p.c j).st = st at *
        generalize (p.c j).d = d at *
        go_wp2_with fail
        refine (CL1.out _).mono ?_
        rintro e w5 ⟨rfl, hb5⟩
        have K5 := Lib.hid (K3.out.kept hb5); have C5 := Lib.hid (C3.out.kept hb5)
        have B5 := Lib.hid (below_then B3.out hb5 B3.out.size)
        clear hb5 K3 C3 B3 CL1 ix x1
        have x2 := (pg_head K5.out).2.1; rw [hl] at x2
        by_cases hok : leafCellOk (p.c j)
        · rw [decide_eq_true hok]
          have OKC := Lib.hid (OKC0.out.1 hok)
          clear OKC0 hok
          go_wp2_with fail
          have K6 := Lib.hid (K5.out); have C6 := Lib.hid (C5.out); have B6 := Lib.hid (B5.out)
          clear K5 C5 B5
          clear x2
          by_cases hj0 : j = 0
          · subst hj0
            have ok0 : okAt p 0 := (CI.out 0 hlt2).2 ⟨OKC.out, fun h => absurd h (by omega)⟩
            have q2 : ∀ q, q < 0 + 1 → okAt p q := fun q hq => by obtain rfl : q = 0 := by omega
                                                                  exact ok0
            have Q2 := Lib.hid q2
            clear ok0 q2
            go_quiet (fail)
            go_wp2
            go_roundw
            case rel => exact ⟨1, by omega, by go_num, Q2.out, K6.out.drewN _, below_drewN B6.out _⟩
            case measure => simp [RowKit.intOf]
          · obtain ⟨i, hi⟩ : ∃ i, j = i + 1 := ⟨j - 1, by omega⟩
            have hw : IntKind.i64.wrap ((j : Int) - 1) = (i : Int) := by simp [IntKind.wrap, IntKind.signed, IntKind.bits]; omega
            have hi6 : i < 6 := by omega
            obtain ⟨z0, z1⟩ := pg_cell K6.out i hi6
            have v0 := C6.out.cell 0; have v1 := C6.out.cell 1
            simp only [List.getElem?_toArray, List.getElem?_cons_zero, List.getElem?_cons_succ] at v0 v1
            have ck1 := fun w => keyof_any (p.c i) w (HS.out i hi6)
            have hci : okAt p j ↔ cellOk p j ∧ (0 < j → slt (p.c i).key (p.c j).key = true) := by
              have := CI.out j hlt2
              rw [show j - 1 = i by omega] at this
              exact this
            have HCI := Lib.hid hci
            unfold Ce.v at ck1
            have CK1 := Lib.hid ck1
            have CK2 := Lib.hid CK0.out
            have j1 : (0 : Int) < (j : Int) := by omega
            have j1n : 0 < j := by omega
            have j1d : decide (0 < j) = true := by simp; omega
            have j2 : (1 : Int) ≤ (j : Int) := by omega
            have j3 : (0 : Int) ≤ (i : Int) := by omega
            have j4 : (i : Int) < 6 := by omega
            have HCELL := Lib.hid (fun (w' : World) (h : Bk w' w.heap.size 38 p.cs) (hc : Bk w' wr.heap.size 35 #[.int .i64 st, .string d]) => held_cells h hc i hi hlt)
            have HI := Lib.hid hi
            clear ck1 hci hi CK0
            generalize (p.c i).st = sti at *
            generalize (p.c i).d = di at *
            generalize (p.c i).key = ki at *
            generalize (p.c j).key = kj at *
            go_region_held3 (fun w' => w'.cell? ⟨w.heap.size, 4 + i * 2, none⟩ = some (.int .i64 sti) ∧ w'.cell? ⟨w.heap.size, 4 + i * 2 + 1, none⟩ = some (.string di) ∧ w'.cell? ⟨wr.heap.size, 0, none⟩ = some (.int .i64 st) ∧ w'.cell? ⟨wr.heap.size, 1, none⟩ = some (.string d)) (first | exact ⟨m8.1, m8.2.1, m8.2.2.1, m8.2.2.2⟩ | exact ⟨m7.1, m7.2.1, m7.2.2.1, m7.2.2.2⟩ | exact ⟨z0, z1, v0, v1⟩)
              (first
                | (go_simp; go_at_call_of 108 (Value.agg #[.int .i64 sti, .string di]); refine (CK1.out _).mono ?_; rintro e w7 ⟨rfl, hb7⟩; have k7 := (K6.out.drew).kept hb7; have c7 := (C6.out.drew).kept hb7; have m7 := HCELL.out _ k7 c7)
                | (go_simp; go_at_call_of 108 (Value.agg #[.int .i64 st, .string d]); refine (CK2.out _).mono ?_; rintro e w8 ⟨rfl, hb8⟩; have k8 := k7.kept hb8; have c8 := c7.kept hb8; have m8 := HCELL.out _ k8 c8))
            have K8 := Lib.hid k8
            have B8 := Lib.hid (below_then (below_then B6.out.drew hb7 B6.out.size) hb8 (by have h1 := B6.out.size; have h2 := hb7.size; simp at h2; omega))
            clear k7 c7 m7 k8 c8 m8 hb7 hb8 z0 z1 v0 v1 hw j2 j3 j4 K6 C6 B6 CK1 CK2 HCELL
            cases hlt3 : slt ki kj
            · have NO := Lib.hid (HNO.out j hlt fun k => by have := ((HCI.out).1 k).2 (by omega); rw [hlt3] at this; cases this)
              have hb := hlt3
              unfold slt at hb
              simp only [hb, Bool.not_false]
              clear hlt3 hb
              go_wp2
              go_ret
              exact ⟨by rw [NO.out]; rfl, B8.out⟩
            · have okj : okAt p j := HCI.out.2 ⟨OKC.out, fun _ => hlt3⟩
              have q2 : ∀ q, q < j + 1 → okAt p q := fun q hq => by
                by_cases e : q = j
                · rw [e]; exact okj
                · exact HQ.out q (by omega)
              have Q2 := Lib.hid q2
              have hb := hlt3
              unfold slt at hb
              simp only [hb, Bool.not_true]
              clear hlt3 okj q2 hb
              go_wp2
              go_roundw
              case rel => exact ⟨j + 1, by omega, by go_num, Q2.out, K8.out, B8.out⟩
              case measure => simp [RowKit.intOf]; omega
        · rw [decide_eq_false hok]
          have NO := Lib.hid (HNO.out j hlt fun k => hok (OKC0.out.2 ((CI.out j hlt2).1 k).1))
          clear OKC0 hok
          go_wp2
          go_ret
          exact ⟨by rw [NO.out]; rfl, B5.out⟩
      · have hge : n ≤ j := by omega
        have hE := ba_empty5 (p.c j).d
        have OKO := Lib.hid (CO.out j hge)
        have NOJ := Lib.hid (HNO.out j hlt)
        by_cases s0 : (p.c j).st = 0
        · by_cases d0 : (p.c j).d.size = 0
          · have q2 : ∀ q, q < j + 1 → okAt p q := fun q hq => by
              by_cases e : q = j
              · rw [e]; exact OKO.out.2 ⟨s0, d0⟩
              · exact HQ.out q (by omega)
            have Q2 := Lib.hid q2
            rw [decide_eq_true d0] at hE
            have s0' := s0
            clear q2 d0 OKO NOJ
            rw [s0] at K3 B3 C3 ix
            clear s0 s0'
            generalize (p.c j).d = d at *
            go_wp2
            go_roundw
            case rel => exact ⟨j + 1, by omega, by go_num, Q2.out, K3.out, B3.out⟩
            case measure => simp [RowKit.intOf]; omega
          · have NO := Lib.hid (NOJ.out fun k => d0 (OKO.out.1 k).2)
            rw [decide_eq_false d0] at hE
            clear d0 OKO NOJ
            rw [s0] at K3 B3 C3 ix
            clear s0
            generalize (p.c j).d = d at *
            go_wp2
            go_ret
            exact ⟨by rw [NO.out]; rfl, B3.out⟩
        · have NO := Lib.hid (NOJ.out fun k => s0 (OKO.out.1 k).1)
          have s0' : ((p.c j).st != 0) = true := by simp [s0]
          clear s0 OKO NOJ hE
          generalize (p.c j).d = d at *
          generalize (p.c j).st = st at *
          go_wp2
          go_ret
          exact ⟨by rw [NO.out]; rfl, B3.out⟩
    · obtain rfl : j = 6 := by omega
      have NO := Lib.hid (HOK.out HQ.out)
      go_wp2
      go_ret
      exact ⟨by rw [NO.out]; rfl, HB.out⟩
set_option maxRecDepth 100000 in
set_option maxHeartbeats 4000000 in
theorem check_inner (p : Pg) (w : World) (hs : Sz p.c) (h : headOk p) (hl : p.l ≠ 0) :
    Calls Tryz.prog 95 #[p.v] w fun e w' => e = .returned (.int .i64 (nodeE p)) ∧ Below w.heap.size w w' := by
  have CC := Lib.hid (fun w => ncount_any p w)
  have hok : (∀ q, q < 6 → okAt p q) → nodeE p = 0 := fun k => if_pos ⟨h, k⟩
  have hno : ∀ q, q < 6 → ¬ okAt p q → nodeE p = 40 := fun q hq k => if_neg fun k2 => k (k2.2 q hq)
  have HOK := Lib.hid hok; have HNO := Lib.hid hno
  have HS := Lib.hid hs
  clear hok hno hs
  have CO := Lib.hid (fun q (hq : cnt p.c ≤ q) => okAt_out hq)
  have CI := Lib.hid (fun q (hq : q < cnt p.c) => okAt_in hq)
  have CL := Lib.hid (fun q (hq : p.l = 0) => cellOk_leaf (q := q) hq)
  have CN := Lib.hid (fun q (hq : p.l ≠ 0) => cellOk_inner (q := q) hq)
  generalize nodeE p = E at *
  obtain ⟨h1, h2, h3⟩ := h
  have hn6 := cnt_le p.c
  have h1' : (p.k != 4) = false := by simp [h1]
  have h2' : ¬ p.l < 0 := by omega
  generalize cnt p.c = n at *
  have IX := Lib.hid (fun (j : Nat) (hj : j < 6) (w : World) => nidx6 p.c j hj w)
  unfold Pg.v
  go_enter Tryz.func95, Tryz.ntmps95
  go_wp2_with (refine load_page rfl _ rfl w.heap.size p rfl (Bk.new _ _ _) ?_)
  refine (CC.out _).mono ?_
  rintro e w2 ⟨rfl, hb2⟩
  have K2 := Lib.hid ((Bk.new w 38 p.cs).kept hb2)
  have B2 := Lib.hid (below_then ((Below.refl _ _).alloc (Nat.le_refl _) (.cells p.cs 38)) hb2 (by simp))
  obtain ⟨x0, x1, _, _⟩ := pg_head K2.out
  obtain ⟨y0, y1, y2, y3, y4, y5, y6, y7, y8, y9, y10, y11⟩ := pg_cells K2.out
  clear hb2 CC h1
  have hl0 : (p.l == 0) = false := by simp [hl]
  have hl1 : 0 < p.l := by omega
  have hn0 : n ≠ 0 := h3 hl1
  have hn1 : ((n : Int) == 0) = false := by simp; omega
  clear h3 hn0
  go_wp2_with fail
  generalize (Value.agg #[.int .i64 (p.c 0).st, .string (p.c 0).d, .int .i64 (p.c 1).st, .string (p.c 1).d, .int .i64 (p.c 2).st, .string (p.c 2).d, .int .i64 (p.c 3).st, .string (p.c 3).d, .int .i64 (p.c 4).st, .string (p.c 4).d, .int .i64 (p.c 5).st, .string (p.c 5).d]) = AV at *
  clear y0 y1 y2 y3 y4 y5 y6 y7 y8 y9 y10 y11 x0 x1
  go_loopw [27] (fun x wr => ∃ j : Nat, j ≤ 6 ∧ x = .int .i64 j ∧ (∀ q, q < j → okAt p q) ∧ Bk wr w.heap.size 38 p.cs ∧ Below w.heap.size w wr) (fun x _ => 6 - (RowKit.intOf x).toNat)
  case atStart => exact ⟨0, by omega, rfl, (fun q hq => absurd hq (Nat.not_lt_zero _)), K2.out, B2.out⟩
  case round =>
    clear K2 B2
    obtain ⟨j, hj, rfl, hq, hk, hb⟩ := hrel
    have HQ := Lib.hid hq; have HK := Lib.hid hk; have HB := Lib.hid hb
    clear hq hk hb
    by_cases hlt : j < 6
    · have ix := IX.out j hlt
      have C3 := Lib.hid (Bk.new wr 35 #[.int .i64 (p.c j).st, .string (p.c j).d])
      have K3 := Lib.hid (HK.out.alloc (.cells #[.int .i64 (p.c j).st, .string (p.c j).d] 35))
      have B3 := Lib.hid (HB.out.alloc HB.out.size (.cells #[.int .i64 (p.c j).st, .string (p.c j).d] 35))
      clear HK HB
      by_cases hlt2 : j < n
      · have x1 := (pg_head K3.out).2.1
        skip
        have cl := fun w => isinner_any (p.c j) j w (HS.out j hlt) (by omega)
        have ck := fun w => keyof_any (p.c j) w (HS.out j hlt)
        have OKC0 := Lib.hid (show innerCellOk (p.c j) j ↔ cellOk p j from (CN.out j hl).symm)
        unfold Ce.v at cl ck
        have CL1 := Lib.hid cl; have CK0 := Lib.hid ck
        clear cl ck
        generalize (p.c j).st = st at *
        generalize (p.c j).d = d at *
        go_wp2_with fail
        refine (CL1.out _).mono ?_
        rintro e w5 ⟨rfl, hb5⟩
        have K5 := Lib.hid (K3.out.kept hb5); have C5 := Lib.hid (C3.out.kept hb5)
        have B5 := Lib.hid (below_then B3.out hb5 B3.out.size)
        clear hb5 K3 C3 B3 CL1 ix x1
        skip
        by_cases hok : innerCellOk (p.c j) j
        · rw [decide_eq_true hok]
          have OKC := Lib.hid (OKC0.out.1 hok)
          clear OKC0 hok
          go_wp2_with fail
          have K6 := Lib.hid (K5.out); have C6 := Lib.hid (C5.out); have B6 := Lib.hid (B5.out)
          clear K5 C5 B5
          skip
          by_cases hj0 : j = 0
          · subst hj0
            have ok0 : okAt p 0 := (CI.out 0 hlt2).2 ⟨OKC.out, fun h => absurd h (by omega)⟩
            have q2 : ∀ q, q < 0 + 1 → okAt p q := fun q hq => by obtain rfl : q = 0 := by omega
                                                                  exact ok0
            have Q2 := Lib.hid q2
            clear ok0 q2
            go_quiet (fail)
            go_wp2
            go_roundw
            case rel => exact ⟨1, by omega, by go_num, Q2.out, K6.out.drewN _, below_drewN B6.out _⟩
            case measure => simp [RowKit.intOf]
          · obtain ⟨i, hi⟩ : ∃ i, j = i + 1 := ⟨j - 1, by omega⟩
            have hw : IntKind.i64.wrap ((j : Int) - 1) = (i : Int) := by simp [IntKind.wrap, IntKind.signed, IntKind.bits]; omega
            have hi6 : i < 6 := by omega
            obtain ⟨z0, z1⟩ := pg_cell K6.out i hi6
            have v0 := C6.out.cell 0; have v1 := C6.out.cell 1
            simp only [List.getElem?_toArray, List.getElem?_cons_zero, List.getElem?_cons_succ] at v0 v1
            have ck1 := fun w => keyof_any (p.c i) w (HS.out i hi6)
            have hci : okAt p j ↔ cellOk p j ∧ (0 < j → slt (p.c i).key (p.c j).key = true) := by
              have := CI.out j hlt2
              rw [show j - 1 = i by omega] at this
              exact this
            have HCI := Lib.hid hci
            unfold Ce.v at ck1
            have CK1 := Lib.hid ck1
            have CK2 := Lib.hid CK0.out
            have j1 : (0 : Int) < (j : Int) := by omega
            have j1n : 0 < j := by omega
            have j1d : decide (0 < j) = true := by simp; omega
            have j2 : (1 : Int) ≤ (j : Int) := by omega
            have j3 : (0 : Int) ≤ (i : Int) := by omega
            have j4 : (i : Int) < 6 := by omega
            have HCELL := Lib.hid (fun (w' : World) (h : Bk w' w.heap.size 38 p.cs) (hc : Bk w' wr.heap.size 35 #[.int .i64 st, .string d]) => held_cells h hc i hi hlt)
            have HI := Lib.hid hi
            clear ck1 hci hi CK0
            generalize (p.c i).st = sti at *
            generalize (p.c i).d = di at *
            generalize (p.c i).key = ki at *
            generalize (p.c j).key = kj at *
            go_region_held3 (fun w' => w'.cell? ⟨w.heap.size, 4 + i * 2, none⟩ = some (.int .i64 sti) ∧ w'.cell? ⟨w.heap.size, 4 + i * 2 + 1, none⟩ = some (.string di) ∧ w'.cell? ⟨wr.heap.size, 0, none⟩ = some (.int .i64 st) ∧ w'.cell? ⟨wr.heap.size, 1, none⟩ = some (.string d)) (first | exact ⟨m8.1, m8.2.1, m8.2.2.1, m8.2.2.2⟩ | exact ⟨m7.1, m7.2.1, m7.2.2.1, m7.2.2.2⟩ | exact ⟨z0, z1, v0, v1⟩)
              (first
                | (go_simp; go_at_call_of 108 (Value.agg #[.int .i64 sti, .string di]); refine (CK1.out _).mono ?_; rintro e w7 ⟨rfl, hb7⟩; have k7 := (K6.out.drew).kept hb7; have c7 := (C6.out.drew).kept hb7; have m7 := HCELL.out _ k7 c7)
                | (go_simp; go_at_call_of 108 (Value.agg #[.int .i64 st, .string d]); refine (CK2.out _).mono ?_; rintro e w8 ⟨rfl, hb8⟩; have k8 := k7.kept hb8; have c8 := c7.kept hb8; have m8 := HCELL.out _ k8 c8))
            have K8 := Lib.hid k8
            have B8 := Lib.hid (below_then (below_then B6.out.drew hb7 B6.out.size) hb8 (by have h1 := B6.out.size; have h2 := hb7.size; simp at h2; omega))
            clear k7 c7 m7 k8 c8 m8 hb7 hb8 z0 z1 v0 v1 hw j2 j3 j4 K6 C6 B6 CK1 CK2 HCELL
            cases hlt3 : slt ki kj
            · have NO := Lib.hid (HNO.out j hlt fun k => by have := ((HCI.out).1 k).2 (by omega); rw [hlt3] at this; cases this)
              have hb := hlt3
              unfold slt at hb
              simp only [hb, Bool.not_false]
              clear hlt3 hb
              go_wp2
              go_ret
              exact ⟨by rw [NO.out]; rfl, B8.out⟩
            · have okj : okAt p j := HCI.out.2 ⟨OKC.out, fun _ => hlt3⟩
              have q2 : ∀ q, q < j + 1 → okAt p q := fun q hq => by
                by_cases e : q = j
                · rw [e]; exact okj
                · exact HQ.out q (by omega)
              have Q2 := Lib.hid q2
              have hb := hlt3
              unfold slt at hb
              simp only [hb, Bool.not_true]
              clear hlt3 okj q2 hb
              go_wp2
              go_roundw
              case rel => exact ⟨j + 1, by omega, by go_num, Q2.out, K8.out, B8.out⟩
              case measure => simp [RowKit.intOf]; omega
        · rw [decide_eq_false hok]
          have NO := Lib.hid (HNO.out j hlt fun k => hok (OKC0.out.2 ((CI.out j hlt2).1 k).1))
          clear OKC0 hok
          go_wp2
          go_ret
          exact ⟨by rw [NO.out]; rfl, B5.out⟩
      · have hge : n ≤ j := by omega
        have hE := ba_empty5 (p.c j).d
        have OKO := Lib.hid (CO.out j hge)
        have NOJ := Lib.hid (HNO.out j hlt)
        by_cases s0 : (p.c j).st = 0
        · by_cases d0 : (p.c j).d.size = 0
          · have q2 : ∀ q, q < j + 1 → okAt p q := fun q hq => by
              by_cases e : q = j
              · rw [e]; exact OKO.out.2 ⟨s0, d0⟩
              · exact HQ.out q (by omega)
            have Q2 := Lib.hid q2
            rw [decide_eq_true d0] at hE
            have s0' := s0
            clear q2 d0 OKO NOJ
            rw [s0] at K3 B3 C3 ix
            clear s0 s0'
            generalize (p.c j).d = d at *
            go_wp2
            go_roundw
            case rel => exact ⟨j + 1, by omega, by go_num, Q2.out, K3.out, B3.out⟩
            case measure => simp [RowKit.intOf]; omega
          · have NO := Lib.hid (NOJ.out fun k => d0 (OKO.out.1 k).2)
            rw [decide_eq_false d0] at hE
            clear d0 OKO NOJ
            rw [s0] at K3 B3 C3 ix
            clear s0
            generalize (p.c j).d = d at *
            go_wp2
            go_ret
            exact ⟨by rw [NO.out]; rfl, B3.out⟩
        · have NO := Lib.hid (NOJ.out fun k => s0 (OKO.out.1 k).1)
          have s0' : ((p.c j).st != 0) = true := by simp [s0]
          clear s0 OKO NOJ hE
          generalize (p.c j).d = d at *
          generalize (p.c j).st = st at *
          go_wp2
          go_ret
          exact ⟨by rw [NO.out]; rfl, B3.out⟩
    · obtain rfl : j = 6 := by omega
      have NO := Lib.hid (HOK.out HQ.out)
      go_wp2
      go_ret
      exact ⟨by rw [NO.out]; rfl, HB.out⟩
theorem ncheck_any (p : Pg) (w : World) (hs : Sz p.c) :
    Calls Tryz.prog 95 #[p.v] w fun e w' => e = .returned (.int .i64 (nodeE p)) ∧ Below w.heap.size w w' := by
  by_cases h : headOk p
  · by_cases hl : p.l = 0
    · exact check_leaf p w hs h hl
    · exact check_inner p w hs h hl
  · rw [show nodeE p = 40 from if_neg fun k => h k.1]
    exact ncheck_head p w h
end Go.Proofs.YtelbioooggnbiaaGreat
