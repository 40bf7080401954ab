/- The walk of the document's own Check of a node. -/
import Derived.Test.YtedoechjjcbeeaaNodCheck
set_option linter.unusedVariables false
set_option linter.unusedSimpArgs false
namespace Go.Proofs.Ytedoechjjcbeeaa
open Go.RowKit

theorem leafOk_iff (c : Ce) (h : c.says) : leafCellOk c ↔ c.key.size ≠ 0 ∧ c.rst.size ≤ 20 ∧ c.st ≤ 2 ∧ 1 ≤ c.st := by
  unfold leafCellOk
  constructor
  · rintro ⟨_, h2, h3, h4⟩; exact ⟨h2, h3, by omega, by omega⟩
  · rintro ⟨h2, h3, h4, h5⟩; exact ⟨h, h2, h3, by omega⟩
theorem cellOk_says (p : Pg) (q : Nat) (h : cellOk p q) : (p.c q).says := by
  unfold cellOk at h
  split at h
  · exact h.1
  · by_cases k : (p.c q).says
    · exact k
    · exact absurd (child_not (p.c q) fun k2 => k k2.1) h.2.1
set_option maxRecDepth 100000 in
set_option maxHeartbeats 1000000 in
theorem rcheck_head (p : Pg) (w : World) (h : p.k ≠ 4 ∨ p.l < 0) :
    Calls Try.prog 21 #[p.v] w fun e w' => e = .returned (.int .i64 40) ∧ Below w.heap.size w w' := by
  have CC := Lib.hid (fun w => cells_any p w)
  generalize cnt p.c = n at *
  unfold Pg.v
  go_enter Try.func21, Try.ntmps21
  go_wp2_with (refine load_page rfl _ rfl w.heap.size p rfl (Bk.new _ _ _) ?_)
  refine (CC.out _).mono ?_
  rintro e w2 ⟨a, cap, rfl, hr, hb2⟩
  have K2 := Lib.hid ((Bk.new w 40 p.cs).kept hb2)
  have B2 := Lib.hid (below_then ((Below.refl _ _).alloc (Nat.le_refl _) (.cells p.cs 40)) hb2 (by simp))
  have x0 := (pg_head K2.out).1
  have x1 := (pg_head K2.out).2.1
  clear hb2 CC K2 hr
  by_cases h1 : p.k = 4
  · have h1' : (p.k != 4) = false := by simp [h1]
    have h2 : p.l < 0 := by rcases h with h | h <;> first | exact absurd h1 h | exact h
    clear h h1
    go_wp2
    go_ret
    exact ⟨rfl, B2.out⟩
  · have h1' : (p.k != 4) = true := by simp [h1]
    clear h h1
    go_wp2
    go_ret
    exact ⟨rfl, B2.out⟩
set_option maxRecDepth 100000 in
set_option maxHeartbeats 4000000 in
theorem rcheck_leaf (p : Pg) (w : World) (hs : Sz p.c) (h1 : p.k = 4) (h2 : 0 ≤ p.l) (hl : p.l = 0) :
    Calls Try.prog 21 #[p.v] w fun e w' => e = .returned (.int .i64 (nodeE p)) ∧ Below w.heap.size w w' := by
  have CC := Lib.hid (fun w => cells_any p w)
  have hok : (0 < p.l → cnt p.c ≠ 0) → (∀ q, q < 6 → okAt p q) → nodeE p = 0 := fun h k => if_pos ⟨⟨h1, h2, h⟩, k⟩
  have hno : ∀ q, q < 6 → ¬ okAt p q → nodeE p = 40 := fun q hq k => if_neg fun k2 => k (k2.2 q hq)
  have hnh : ¬ (0 < p.l → cnt p.c ≠ 0) → nodeE p = 40 := fun k => if_neg fun k2 => k k2.1.2.2
  have HOK := Lib.hid hok; have HNO := Lib.hid hno; have HNH := Lib.hid hnh
  have HS := Lib.hid hs
  clear hok hno hs hnh
  have CO := Lib.hid (fun q (hq : cnt p.c ≤ q) => okAt_out hq)
  have CI := Lib.hid (fun q (hq : q < cnt p.c) => okAt_in hq)
  have CL := Lib.hid (fun q (hq : p.l = 0) => cellOk_leaf (q := q) hq)
  have CN := Lib.hid (fun q (hq : p.l ≠ 0) => cellOk_inner (q := q) hq)
  have CS := Lib.hid (cellOk_says p)
  generalize nodeE p = E at *
  have hn6 := cnt_le p.c
  have h1' : (p.k != 4) = false := by simp [h1]
  have h2' : ¬ p.l < 0 := by omega
  generalize cnt p.c = n at *
  unfold Pg.v
  go_enter Try.func21, Try.ntmps21
  go_wp2_with (refine load_page rfl _ rfl w.heap.size p rfl (Bk.new _ _ _) ?_)
  refine (CC.out _).mono ?_
  rintro e w2 ⟨a, cap, rfl, hr, hb2⟩
  have K2 := Lib.hid ((Bk.new w 40 p.cs).kept hb2)
  have B2 := Lib.hid (below_then ((Below.refl _ _).alloc (Nat.le_refl _) (.cells p.cs 40)) hb2 (by simp))
  have R2 := Lib.hid (hr.low (show w.heap.size ≤ _ by simp))
  have x0 := (pg_head K2.out).1
  have x1 := (pg_head K2.out).2.1
  clear hb2 CC hr h1
  go_wp2_with fail
  clear x0 x1
  go_loop [4] (fun x => ∃ j : Nat, n ≤ j ∧ j ≤ 6 ∧ x = .int .i64 j ∧ (∀ q, n ≤ q → q < j → okAt p q)) (fun x => 6 - (intOf x).toNat)
  case atStart => exact ⟨n, by omega, hn6, rfl, fun q h1 h2 => by omega⟩
  case round =>
    obtain ⟨j, hnj, hj, rfl, hq⟩ := hrel
    have HQ := Lib.hid hq
    clear hq
    by_cases hlt : j < 6
    · obtain ⟨y0, y1⟩ := pg_cell K2.out j hlt
      have hE := ba_empty5 (p.c j).d
      have OKO := Lib.hid (CO.out j hnj)
      have NOJ := Lib.hid (HNO.out j hlt)
      by_cases s0 : (p.c j).st = 0
      · rw [s0] at y0
        by_cases d0 : (p.c j).d.size = 0
        · have q2 : ∀ q, n ≤ q → q < j + 1 → okAt p q := fun q h1 hq => by
            by_cases e : q = j
            · rw [e]; exact OKO.out.2 ⟨s0, d0⟩
            · exact HQ.out q h1 (by omega)
          have Q2 := Lib.hid q2
          rw [decide_eq_true d0] at hE
          clear q2 d0 OKO NOJ s0
          generalize (p.c j).d = d at *
          go_wp2
          go_round
          case rel => exact ⟨j + 1, by omega, by omega, by go_num, Q2.out⟩
          case measure => simp [intOf]; omega
        · have NO := Lib.hid (NOJ.out fun k => d0 (OKO.out.1 k).2)
          rw [decide_eq_false d0] at hE
          clear d0 OKO NOJ s0
          generalize (p.c j).d = d at *
          go_wp2
          go_ret
          exact ⟨by rw [NO.out]; rfl, B2.out⟩
      · have NO := Lib.hid (NOJ.out fun k => s0 (OKO.out.1 k).1)
        have s0' : ((p.c j).st != 0) = true := by simp [s0]
        clear s0 OKO NOJ hE
        generalize (p.c j).d = d at *
        generalize (p.c j).st = st at *
        go_wp2
        go_ret
        exact ⟨by rw [NO.out]; rfl, B2.out⟩
    · obtain rfl : j = 6 := by omega
      go_wp2_with fail
      clear hnj hj hlt
      go_loopw [5] (fun x wr => ∃ j : Nat, j ≤ n ∧ x = .int .i64 j ∧ (∀ q, q < j → okAt p q) ∧ CRow wr w.heap.size a n cap p.c ∧ Bk wr w.heap.size 40 p.cs ∧ Below w.heap.size w wr) (fun x _ => n - (intOf x).toNat)
      case atStart => exact ⟨0, by omega, rfl, (fun q hq => absurd hq (Nat.not_lt_zero _)), R2.out, K2.out, B2.out⟩
      case round =>
        have HQ0 := HQ
        clear HQ R2 K2 B2
        obtain ⟨j, hj, rfl, hq, hr, hk, hb⟩ := hrel
        have HQ := Lib.hid hq; have R2 := Lib.hid hr; have K2 := Lib.hid hk; have B2 := Lib.hid hb
        clear hq hr hk hb
        by_cases hlt2 : j < n
        · have hlt : j < 6 := by omega
          obtain ⟨g, hg, _, _⟩ := R2.out.form (by omega)
          subst hg
          obtain ⟨y0, y1⟩ := R2.out.cell hlt2
          have ck := fun w => says_any (p.c j) w (HS.out j hlt)
          have ch := fun w => rchild_any (p.c j) w (HS.out j hlt)
          have NOC := Lib.hid (fun (k : ¬ cellOk p j) => HNO.out j hlt fun k2 => k ((CI.out j hlt2).1 k2).1)
          have NOS := Lib.hid (fun (k : ¬ (0 < j → slt (p.c (j - 1)).key (p.c j).key = true)) => HNO.out j hlt fun k2 => k ((CI.out j hlt2).1 k2).2)
          have OKA := Lib.hid (fun (k : 0 < j → slt (p.c (j - 1)).key (p.c j).key = true) (h : cellOk p j) => (CI.out j hlt2).2 ⟨h, k⟩)
          have CSJ := Lib.hid (CS.out j)
          have OKL0 := Lib.hid (show cellOk p j ↔ leafCellOk (p.c j) from CL.out j hl)
          unfold Ce.v at ck ch
          by_cases hy : (p.c j).says
          · rw [decide_eq_true hy] at ck
            have OKL := Lib.hid (show cellOk p j ↔ (p.c j).key.size ≠ 0 ∧ (p.c j).rst.size ≤ 20 ∧ (p.c j).st ≤ 2 ∧ 1 ≤ (p.c j).st from OKL0.out.trans (leafOk_iff _ hy))
            have CK := Lib.hid ck; have CH := Lib.hid ch
            clear ck ch OKL0 CSJ hy
            generalize hst : (p.c j).st = st at *
            generalize hdd : (p.c j).d = d at *
            generalize hky : (p.c j).key = ky at *
            generalize hrs : (p.c j).rst = rs at *
            generalize (p.c j).child = ch at *
            have HST := Lib.hid hst; have HDD := Lib.hid hdd
            clear hst hdd hky hrs
            go_wp2_with fail
            refine (CK.out _).mono ?_
            rintro e w3 ⟨rfl, hb3⟩
            have K3 := Lib.hid (K2.out.kept hb3); have R3 := Lib.hid (R2.out.kept hb3)
            have B3 := Lib.hid (below_then B2.out hb3 B2.out.size)
            clear hb3 K2 R2 B2 CK y0 y1
            by_cases hj0 : j = 0
            · subst hj0
              have SL := Lib.hid (show 0 < 0 → slt (p.c (0 - 1)).key ky = true from fun h => absurd h (by omega))
              have hst := HST.out; have hdd := HDD.out
              have x1 := (pg_head K3.out).2.1
              rw [hl] at x1
              obtain ⟨y0, y1⟩ := R3.out.cell hlt2
              simp only [hst] at y0
              have hE := ba_empty5 ky
              by_cases e1 : ky.size = 0
              · have NO := Lib.hid (NOC.out fun k => (OKL.out.1 k).1 e1)
                rw [decide_eq_true e1] at hE
                clear e1
                go_wp2
                go_ret
                exact ⟨by rw [NO.out]; rfl, B3.out⟩
              · rw [decide_eq_false e1] at hE
                by_cases e2 : (20 : Int) < rs.size
                · have NO := Lib.hid (NOC.out fun k => by have := (OKL.out.1 k).2.1; omega)
                  go_wp2
                  go_ret
                  exact ⟨by rw [NO.out]; rfl, B3.out⟩
                · by_cases e3 : 2 < st
                  · have NO := Lib.hid (NOC.out fun k => by have := (OKL.out.1 k).2.2.1; omega)
                    go_wp2
                    go_ret
                    exact ⟨by rw [NO.out]; rfl, B3.out⟩
                  · by_cases e4 : st < 1
                    · have NO := Lib.hid (NOC.out fun k => by have := (OKL.out.1 k).2.2.2; omega)
                      go_wp2
                      go_ret
                      exact ⟨by rw [NO.out]; rfl, B3.out⟩
                    · have OKC := Lib.hid (OKL.out.2 ⟨e1, by omega, by omega, by omega⟩)
                      clear e1
                      have Q2 := Lib.hid (show ∀ q, q < 1 → okAt p q from fun q hq => by
                        by_cases e : q = 0
                        · rw [e]; exact OKA.out SL.out OKC.out
                        · exact HQ.out q (by omega))
                      go_wp2
                      go_roundw
                      case rel => exact ⟨1, by omega, by go_num, Q2.out, R3.out, K3.out, B3.out⟩
                      case measure => simp [intOf]; try omega
            · obtain ⟨i, hi⟩ : ∃ i, j = i + 1 := ⟨j - 1, by omega⟩
              have hw : IntKind.i64.wrap ((j : Int) - 1) = (i : Int) := by simp [IntKind.wrap, IntKind.signed, IntKind.bits]; omega
              have hi6 : i < n := by omega
              obtain ⟨z0, z1⟩ := R3.out.cell hi6
              rw [show j - 1 = i by omega] at NOS
              have cb := fun w => says_any (p.c i) w (HS.out i (by omega))
              unfold Ce.v at cb
              have CB := Lib.hid cb
              have j1 : (0 : Int) < (j : Int) := by omega
              have j1n : 0 < j := by omega
              have j2 : (1 : Int) ≤ (j : Int) := by omega
              have j3 : (0 : Int) ≤ (j : Int) - 1 := by omega
              have j5 : (j : Int) - 1 < (n : Int) := by omega
              have j4 : ((j : Int) - 1).toNat = i := by omega
              have HI := Lib.hid hi
              clear cb hi
              generalize hki : (p.c i).key = ki at *
              have HKI := Lib.hid hki
              clear hki
              generalize (p.c i).st = sti at *
              generalize (p.c i).d = di at *
              generalize (p.c i).rst = ri at *
              generalize decide (p.c i).says = oi at *
              go_wp2_with fail
              refine (CB.out _).mono ?_
              rintro e w4 ⟨rfl, hb4⟩
              have K4 := Lib.hid (K3.out.kept hb4); have R4 := Lib.hid (R3.out.kept hb4)
              have B4 := Lib.hid (below_then B3.out hb4 B3.out.size)
              clear hb4 K3 R3 B3 CB z0 z1 hw
              have hle := sle_not ky ki
              unfold slt seq at hle
              cases hlt3 : slt ki ky
              · have NO := Lib.hid (NOS.out fun k => by have := k (by omega); rw [hlt3] at this; cases this)
                have hb := hlt3
                unfold slt at hb
                rw [hb] at hle
                simp only [Bool.not_false] at hle
                clear hlt3 hb
                go_wp2
                go_ret
                exact ⟨by rw [NO.out]; rfl, B4.out⟩
              · have SL := Lib.hid (show 0 < j → slt (p.c (j - 1)).key ky = true from fun _ => by rw [show j - 1 = i by have := HI.out; omega, HKI.out]; exact hlt3)
                have hb := hlt3
                unfold slt at hb
                rw [hb] at hle
                simp only [Bool.not_true] at hle
                clear hlt3 hb
                have hst := HST.out; have hdd := HDD.out
                have x1 := (pg_head K4.out).2.1
                rw [hl] at x1
                obtain ⟨y0, y1⟩ := R4.out.cell hlt2
                simp only [hst] at y0
                have hE := ba_empty5 ky
                by_cases e1 : ky.size = 0
                · have NO := Lib.hid (NOC.out fun k => (OKL.out.1 k).1 e1)
                  rw [decide_eq_true e1] at hE
                  clear e1
                  go_wp2
                  go_ret
                  exact ⟨by rw [NO.out]; rfl, B4.out⟩
                · rw [decide_eq_false e1] at hE
                  by_cases e2 : (20 : Int) < rs.size
                  · have NO := Lib.hid (NOC.out fun k => by have := (OKL.out.1 k).2.1; omega)
                    go_wp2
                    go_ret
                    exact ⟨by rw [NO.out]; rfl, B4.out⟩
                  · by_cases e3 : 2 < st
                    · have NO := Lib.hid (NOC.out fun k => by have := (OKL.out.1 k).2.2.1; omega)
                      go_wp2
                      go_ret
                      exact ⟨by rw [NO.out]; rfl, B4.out⟩
                    · by_cases e4 : st < 1
                      · have NO := Lib.hid (NOC.out fun k => by have := (OKL.out.1 k).2.2.2; omega)
                        go_wp2
                        go_ret
                        exact ⟨by rw [NO.out]; rfl, B4.out⟩
                      · have OKC := Lib.hid (OKL.out.2 ⟨e1, by omega, by omega, by omega⟩)
                        clear e1
                        have Q2 := Lib.hid (show ∀ q, q < j + 1 → okAt p q from fun q hq => by
                          by_cases e : q = j
                          · rw [e]; exact OKA.out SL.out OKC.out
                          · exact HQ.out q (by omega))
                        go_wp2
                        go_roundw
                        case rel => exact ⟨j + 1, by omega, by go_num, Q2.out, R4.out, K4.out, B4.out⟩
                        case measure => simp [intOf]; omega
          · rw [decide_eq_false hy] at ck
            have NO := Lib.hid (NOC.out fun k => hy (CSJ.out k))
            have CK := Lib.hid ck
            clear ck ch hy OKL0 CSJ
            generalize (p.c j).st = st at *
            generalize (p.c j).d = d at *
            generalize (p.c j).key = ky at *
            generalize (p.c j).rst = rs at *
            go_wp2_with fail
            refine (CK.out _).mono ?_
            rintro e w3 ⟨rfl, hb3⟩
            have B3 := Lib.hid (below_then B2.out hb3 B2.out.size)
            clear hb3 CK y0 y1
            go_wp2
            go_ret
            exact ⟨by rw [NO.out]; rfl, B3.out⟩
        · obtain rfl : j = n := by omega
          have x1 := (pg_head K2.out).2.1
          rw [hl] at x1
          have NO := Lib.hid (HOK.out (fun h => by omega) fun q hq => by
            by_cases e : q < j
            · exact HQ.out q e
            · exact HQ0.out q (by omega) hq)
          go_wp2
          go_ret
          exact ⟨by rw [NO.out]; rfl, B2.out⟩
set_option maxRecDepth 100000 in
set_option maxHeartbeats 4000000 in
theorem rcheck_inner (p : Pg) (w : World) (hs : Sz p.c) (h1 : p.k = 4) (h2 : 0 ≤ p.l) (hl : p.l ≠ 0) :
    Calls Try.prog 21 #[p.v] w fun e w' => e = .returned (.int .i64 (nodeE p)) ∧ Below w.heap.size w w' := by
  have CC := Lib.hid (fun w => cells_any p w)
  have hok : (0 < p.l → cnt p.c ≠ 0) → (∀ q, q < 6 → okAt p q) → nodeE p = 0 := fun h k => if_pos ⟨⟨h1, h2, h⟩, k⟩
  have hno : ∀ q, q < 6 → ¬ okAt p q → nodeE p = 40 := fun q hq k => if_neg fun k2 => k (k2.2 q hq)
  have hnh : ¬ (0 < p.l → cnt p.c ≠ 0) → nodeE p = 40 := fun k => if_neg fun k2 => k k2.1.2.2
  have HOK := Lib.hid hok; have HNO := Lib.hid hno; have HNH := Lib.hid hnh
  have HS := Lib.hid hs
  clear hok hno hs hnh
  have CO := Lib.hid (fun q (hq : cnt p.c ≤ q) => okAt_out hq)
  have CI := Lib.hid (fun q (hq : q < cnt p.c) => okAt_in hq)
  have CL := Lib.hid (fun q (hq : p.l = 0) => cellOk_leaf (q := q) hq)
  have CN := Lib.hid (fun q (hq : p.l ≠ 0) => cellOk_inner (q := q) hq)
  have CS := Lib.hid (cellOk_says p)
  generalize nodeE p = E at *
  have hn6 := cnt_le p.c
  have h1' : (p.k != 4) = false := by simp [h1]
  have h2' : ¬ p.l < 0 := by omega
  generalize cnt p.c = n at *
  unfold Pg.v
  go_enter Try.func21, Try.ntmps21
  go_wp2_with (refine load_page rfl _ rfl w.heap.size p rfl (Bk.new _ _ _) ?_)
  refine (CC.out _).mono ?_
  rintro e w2 ⟨a, cap, rfl, hr, hb2⟩
  have K2 := Lib.hid ((Bk.new w 40 p.cs).kept hb2)
  have B2 := Lib.hid (below_then ((Below.refl _ _).alloc (Nat.le_refl _) (.cells p.cs 40)) hb2 (by simp))
  have R2 := Lib.hid (hr.low (show w.heap.size ≤ _ by simp))
  have x0 := (pg_head K2.out).1
  have x1 := (pg_head K2.out).2.1
  clear hb2 CC hr h1
  go_wp2_with fail
  clear x0 x1
  go_loop [4] (fun x => ∃ j : Nat, n ≤ j ∧ j ≤ 6 ∧ x = .int .i64 j ∧ (∀ q, n ≤ q → q < j → okAt p q)) (fun x => 6 - (intOf x).toNat)
  case atStart => exact ⟨n, by omega, hn6, rfl, fun q h1 h2 => by omega⟩
  case round =>
    obtain ⟨j, hnj, hj, rfl, hq⟩ := hrel
    have HQ := Lib.hid hq
    clear hq
    by_cases hlt : j < 6
    · obtain ⟨y0, y1⟩ := pg_cell K2.out j hlt
      have hE := ba_empty5 (p.c j).d
      have OKO := Lib.hid (CO.out j hnj)
      have NOJ := Lib.hid (HNO.out j hlt)
      by_cases s0 : (p.c j).st = 0
      · rw [s0] at y0
        by_cases d0 : (p.c j).d.size = 0
        · have q2 : ∀ q, n ≤ q → q < j + 1 → okAt p q := fun q h1 hq => by
            by_cases e : q = j
            · rw [e]; exact OKO.out.2 ⟨s0, d0⟩
            · exact HQ.out q h1 (by omega)
          have Q2 := Lib.hid q2
          rw [decide_eq_true d0] at hE
          clear q2 d0 OKO NOJ s0
          generalize (p.c j).d = d at *
          go_wp2
          go_round
          case rel => exact ⟨j + 1, by omega, by omega, by go_num, Q2.out⟩
          case measure => simp [intOf]; omega
        · have NO := Lib.hid (NOJ.out fun k => d0 (OKO.out.1 k).2)
          rw [decide_eq_false d0] at hE
          clear d0 OKO NOJ s0
          generalize (p.c j).d = d at *
          go_wp2
          go_ret
          exact ⟨by rw [NO.out]; rfl, B2.out⟩
      · have NO := Lib.hid (NOJ.out fun k => s0 (OKO.out.1 k).1)
        have s0' : ((p.c j).st != 0) = true := by simp [s0]
        clear s0 OKO NOJ hE
        generalize (p.c j).d = d at *
        generalize (p.c j).st = st at *
        go_wp2
        go_ret
        exact ⟨by rw [NO.out]; rfl, B2.out⟩
    · obtain rfl : j = 6 := by omega
      go_wp2_with fail
      clear hnj hj hlt
      go_loopw [5] (fun x wr => ∃ j : Nat, j ≤ n ∧ x = .int .i64 j ∧ (∀ q, q < j → okAt p q) ∧ CRow wr w.heap.size a n cap p.c ∧ Bk wr w.heap.size 40 p.cs ∧ Below w.heap.size w wr) (fun x _ => n - (intOf x).toNat)
      case atStart => exact ⟨0, by omega, rfl, (fun q hq => absurd hq (Nat.not_lt_zero _)), R2.out, K2.out, B2.out⟩
      case round =>
        have HQ0 := HQ
        clear HQ R2 K2 B2
        obtain ⟨j, hj, rfl, hq, hr, hk, hb⟩ := hrel
        have HQ := Lib.hid hq; have R2 := Lib.hid hr; have K2 := Lib.hid hk; have B2 := Lib.hid hb
        clear hq hr hk hb
        by_cases hlt2 : j < n
        · have hlt : j < 6 := by omega
          obtain ⟨g, hg, _, _⟩ := R2.out.form (by omega)
          subst hg
          obtain ⟨y0, y1⟩ := R2.out.cell hlt2
          have ck := fun w => says_any (p.c j) w (HS.out j hlt)
          have ch := fun w => rchild_any (p.c j) w (HS.out j hlt)
          have NOC := Lib.hid (fun (k : ¬ cellOk p j) => HNO.out j hlt fun k2 => k ((CI.out j hlt2).1 k2).1)
          have NOS := Lib.hid (fun (k : ¬ (0 < j → slt (p.c (j - 1)).key (p.c j).key = true)) => HNO.out j hlt fun k2 => k ((CI.out j hlt2).1 k2).2)
          have OKA := Lib.hid (fun (k : 0 < j → slt (p.c (j - 1)).key (p.c j).key = true) (h : cellOk p j) => (CI.out j hlt2).2 ⟨h, k⟩)
          have CSJ := Lib.hid (CS.out j)
          have OKL0 := Lib.hid (show cellOk p j ↔ innerCellOk (p.c j) j from CN.out j hl)
          unfold Ce.v at ck ch
          by_cases hy : (p.c j).says
          · rw [decide_eq_true hy] at ck
            have OKL := Lib.hid (show cellOk p j ↔ (p.c j).st = 1 ∧ (p.c j).child ≠ 0 ∧ ((p.c j).key.size = 0 ↔ j = 0) from OKL0.out.trans (Iff.rfl))
            have CK := Lib.hid ck; have CH := Lib.hid ch
            clear ck ch OKL0 CSJ hy
            generalize hst : (p.c j).st = st at *
            generalize hdd : (p.c j).d = d at *
            generalize hky : (p.c j).key = ky at *
            generalize hrs : (p.c j).rst = rs at *
            generalize (p.c j).child = ch at *
            have HST := Lib.hid hst; have HDD := Lib.hid hdd
            clear hst hdd hky hrs
            go_wp2_with fail
            refine (CK.out _).mono ?_
            rintro e w3 ⟨rfl, hb3⟩
            have K3 := Lib.hid (K2.out.kept hb3); have R3 := Lib.hid (R2.out.kept hb3)
            have B3 := Lib.hid (below_then B2.out hb3 B2.out.size)
            clear hb3 K2 R2 B2 CK y0 y1
            by_cases hj0 : j = 0
            · subst hj0
              have SL := Lib.hid (show 0 < 0 → slt (p.c (0 - 1)).key ky = true from fun h => absurd h (by omega))
              have hst := HST.out; have hdd := HDD.out
              have x1 := (pg_head K3.out).2.1
              obtain ⟨y0, y1⟩ := R3.out.cell hlt2
              simp only [hst] at y0
              simp only [hdd] at y1
              have hE := ba_empty5 ky
              by_cases e1 : st = 1
              · subst e1
                by_cases e2 : ch = 0
                · have NO := Lib.hid (NOC.out fun k => (OKL.out.1 k).2.1 e2)
                  subst e2
                  go_wp2_with fail
                  refine (CH.out _).mono ?_
                  rintro e w6 ⟨rfl, hb6⟩
                  have B6 := Lib.hid (below_then B3.out hb6 B3.out.size)
                  clear hb6
                  go_wp2
                  go_ret
                  exact ⟨by rw [NO.out]; rfl, B6.out⟩
                · have e2' : ((ch : Int) == 0) = false := by simp; omega
                  go_wp2_with fail
                  refine (CH.out _).mono ?_
                  rintro e w6 ⟨rfl, hb6⟩
                  have B6 := Lib.hid (below_then B3.out hb6 B3.out.size)
                  have R6 := Lib.hid (R3.out.kept hb6)
                  have K6 := Lib.hid (K3.out.kept hb6)
                  clear hb6 y0 y1 x1
                  have e0 : (((0 : Nat) : Int) == 0) = true := by simp
                  by_cases e3 : ky.size = 0
                  · rw [decide_eq_true e3] at hE
                    have OKC := Lib.hid (OKL.out.2 ⟨by first | rfl | trivial, e2, ⟨fun _ => by first | rfl | trivial | omega, fun _ => by first | exact e3 | (exfalso; omega)⟩⟩)
                    clear e2 e3
                    have Q2 := Lib.hid (show ∀ q, q < 1 → okAt p q from fun q hq => by
                      by_cases e : q = 0
                      · rw [e]; exact OKA.out SL.out OKC.out
                      · exact HQ.out q (by omega))
                    go_wp2
                    go_roundw
                    case rel => exact ⟨1, by omega, by go_num, Q2.out, R6.out, K6.out, B6.out⟩
                    case measure => simp [intOf]; try omega
                  · rw [decide_eq_false e3] at hE
                    have NO := Lib.hid (NOC.out fun k => by have h := (OKL.out.1 k).2.2; first | omega | exact absurd (h.2 trivial) e3 | exact absurd (h.2 rfl) e3)
                    clear e2 e3
                    go_wp2
                    go_ret
                    exact ⟨by rw [NO.out]; rfl, B6.out⟩
              · have e1' : (st != 1) = true := by simp [e1]
                have NO := Lib.hid (NOC.out fun k => e1 (OKL.out.1 k).1)
                clear e1
                go_wp2
                go_ret
                exact ⟨by rw [NO.out]; rfl, B3.out⟩
            · obtain ⟨i, hi⟩ : ∃ i, j = i + 1 := ⟨j - 1, by omega⟩
              have hw : IntKind.i64.wrap ((j : Int) - 1) = (i : Int) := by simp [IntKind.wrap, IntKind.signed, IntKind.bits]; omega
              have hi6 : i < n := by omega
              obtain ⟨z0, z1⟩ := R3.out.cell hi6
              rw [show j - 1 = i by omega] at NOS
              have cb := fun w => says_any (p.c i) w (HS.out i (by omega))
              unfold Ce.v at cb
              have CB := Lib.hid cb
              have j1 : (0 : Int) < (j : Int) := by omega
              have j1n : 0 < j := by omega
              have j2 : (1 : Int) ≤ (j : Int) := by omega
              have j3 : (0 : Int) ≤ (j : Int) - 1 := by omega
              have j5 : (j : Int) - 1 < (n : Int) := by omega
              have j4 : ((j : Int) - 1).toNat = i := by omega
              have HI := Lib.hid hi
              clear cb hi
              generalize hki : (p.c i).key = ki at *
              have HKI := Lib.hid hki
              clear hki
              generalize (p.c i).st = sti at *
              generalize (p.c i).d = di at *
              generalize (p.c i).rst = ri at *
              generalize decide (p.c i).says = oi at *
              go_wp2_with fail
              refine (CB.out _).mono ?_
              rintro e w4 ⟨rfl, hb4⟩
              have K4 := Lib.hid (K3.out.kept hb4); have R4 := Lib.hid (R3.out.kept hb4)
              have B4 := Lib.hid (below_then B3.out hb4 B3.out.size)
              clear hb4 K3 R3 B3 CB z0 z1 hw
              have hle := sle_not ky ki
              unfold slt seq at hle
              cases hlt3 : slt ki ky
              · have NO := Lib.hid (NOS.out fun k => by have := k (by omega); rw [hlt3] at this; cases this)
                have hb := hlt3
                unfold slt at hb
                rw [hb] at hle
                simp only [Bool.not_false] at hle
                clear hlt3 hb
                go_wp2
                go_ret
                exact ⟨by rw [NO.out]; rfl, B4.out⟩
              · have SL := Lib.hid (show 0 < j → slt (p.c (j - 1)).key ky = true from fun _ => by rw [show j - 1 = i by have := HI.out; omega, HKI.out]; exact hlt3)
                have hb := hlt3
                unfold slt at hb
                rw [hb] at hle
                simp only [Bool.not_true] at hle
                clear hlt3 hb
                have hst := HST.out; have hdd := HDD.out
                have x1 := (pg_head K4.out).2.1
                obtain ⟨y0, y1⟩ := R4.out.cell hlt2
                simp only [hst] at y0
                simp only [hdd] at y1
                have hE := ba_empty5 ky
                by_cases e1 : st = 1
                · subst e1
                  by_cases e2 : ch = 0
                  · have NO := Lib.hid (NOC.out fun k => (OKL.out.1 k).2.1 e2)
                    subst e2
                    go_wp2_with fail
                    refine (CH.out _).mono ?_
                    rintro e w6 ⟨rfl, hb6⟩
                    have B6 := Lib.hid (below_then B4.out hb6 B4.out.size)
                    clear hb6
                    go_wp2
                    go_ret
                    exact ⟨by rw [NO.out]; rfl, B6.out⟩
                  · have e2' : ((ch : Int) == 0) = false := by simp; omega
                    go_wp2_with fail
                    refine (CH.out _).mono ?_
                    rintro e w6 ⟨rfl, hb6⟩
                    have B6 := Lib.hid (below_then B4.out hb6 B4.out.size)
                    have R6 := Lib.hid (R4.out.kept hb6)
                    have K6 := Lib.hid (K4.out.kept hb6)
                    clear hb6 y0 y1 x1
                    have e0 : ((j : Int) == 0) = false := by simp; omega
                    by_cases e3 : ky.size = 0
                    · rw [decide_eq_true e3] at hE
                      have NO := Lib.hid (NOC.out fun k => by have h := (OKL.out.1 k).2.2; first | omega | exact absurd (h.2 trivial) e3 | exact absurd (h.2 rfl) e3)
                      clear e2 e3
                      go_wp2
                      go_ret
                      exact ⟨by rw [NO.out]; rfl, B6.out⟩
                    · rw [decide_eq_false e3] at hE
                      have OKC := Lib.hid (OKL.out.2 ⟨by first | rfl | trivial, e2, ⟨fun _ => by first | rfl | trivial | omega, fun _ => by first | exact e3 | (exfalso; omega)⟩⟩)
                      clear e2 e3
                      have Q2 := Lib.hid (show ∀ q, q < j + 1 → okAt p q from fun q hq => by
                        by_cases e : q = j
                        · rw [e]; exact OKA.out SL.out OKC.out
                        · exact HQ.out q (by omega))
                      go_wp2
                      go_roundw
                      case rel => exact ⟨j + 1, by omega, by go_num, Q2.out, R6.out, K6.out, B6.out⟩
                      case measure => simp [intOf]; omega
                · have e1' : (st != 1) = true := by simp [e1]
                  have NO := Lib.hid (NOC.out fun k => e1 (OKL.out.1 k).1)
                  clear e1
                  go_wp2
                  go_ret
                  exact ⟨by rw [NO.out]; rfl, B4.out⟩
          · rw [decide_eq_false hy] at ck
            have NO := Lib.hid (NOC.out fun k => hy (CSJ.out k))
            have CK := Lib.hid ck
            clear ck ch hy OKL0 CSJ
            generalize (p.c j).st = st at *
            generalize (p.c j).d = d at *
            generalize (p.c j).key = ky at *
            generalize (p.c j).rst = rs at *
            go_wp2_with fail
            refine (CK.out _).mono ?_
            rintro e w3 ⟨rfl, hb3⟩
            have B3 := Lib.hid (below_then B2.out hb3 B2.out.size)
            clear hb3 CK y0 y1
            go_wp2
            go_ret
            exact ⟨by rw [NO.out]; rfl, B3.out⟩
        · obtain rfl : j = n := by omega
          have x1 := (pg_head K2.out).2.1
          have hl1 : (p.l != 0) = true := by simp [hl]
          by_cases j0 : j = 0
          · have NO := Lib.hid (HNH.out fun k => k (by omega) j0)
            subst j0
            go_wp2
            go_ret
            exact ⟨by rw [NO.out]; rfl, B2.out⟩
          · have j0' : ((j : Int) == 0) = false := by simp; omega
            have NO := Lib.hid (HOK.out (fun h => j0) fun q hq => by
              by_cases e : q < j
              · exact HQ.out q e
              · exact HQ0.out q (by omega) hq)
            go_wp2
            go_ret
            exact ⟨by rw [NO.out]; rfl, B2.out⟩
theorem rcheck_any (p : Pg) (w : World) (hs : Sz p.c) :
    Calls Try.prog 21 #[p.v] w fun e w' => e = .returned (.int .i64 (nodeE p)) ∧ Below w.heap.size w w' := by
  by_cases h : p.k = 4 ∧ 0 ≤ p.l
  · by_cases hl : p.l = 0
    · exact rcheck_leaf p w hs h.1 h.2 hl
    · exact rcheck_inner p w hs h.1 h.2 hl
  · rw [show nodeE p = 40 from if_neg fun k => h ⟨k.1.1, k.1.2.1⟩]
    exact rcheck_head p w (by omega)
end Go.Proofs.Ytedoechjjcbeeaa
