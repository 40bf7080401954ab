/- The walks of the document's own over and with. -/
import Derived.Test.YtedoechjjcbeeaaNodSplit2
set_option linter.unusedVariables false
set_option linter.unusedSimpArgs false
namespace Go.Proofs.Ytedoechjjcbeeaa
open Go.RowKit

/-- A page whose first cells are these. -/
def Pg.fill (p : Pg) (d : Nat → Ce) (j : Nat) : Pg := { p with c := fun q => if q < j then d q else p.c q }
theorem fill_zero (p : Pg) (d : Nat → Ce) : p.fill d 0 = p := by
  obtain ⟨k, l, s, n, c⟩ := p
  simp [Pg.fill]
theorem fill_step (p : Pg) (d : Nat → Ce) (j : Nat) : ((p.fill d j).set j (d j)).cs = (p.fill d (j + 1)).cs := by
  refine Pg.cs_eq ⟨rfl, rfl, rfl, rfl, fun i hi => ?_⟩
  simp only [Pg.set, Pg.fill]
  by_cases h : i = j
  · rw [if_pos h, if_pos (by omega), h]
  · rw [if_neg h]
    by_cases h2 : i < j
    · rw [if_pos h2, if_pos (by omega)]
    · rw [if_neg h2, if_neg (by omega)]
theorem set_set (p : Pg) (j : Nat) (a b : Ce) : ((p.set j a).set j b).cs = (p.set j b).cs := by
  refine Pg.cs_eq ⟨rfl, rfl, rfl, rfl, fun i hi => ?_⟩
  simp only [Pg.set]
  by_cases h : i = j
  · rw [if_pos h, if_pos h]
  · rw [if_neg h, if_neg h, if_neg h]
theorem CRow.ne_page {w : World} {B n cap g : Nat} {a : Option Addr} {c : Nat → Ce} {cs : Array Value} (h : CRow w B a n cap c) (hp : Bk w g 40 cs) : ∀ k, (Value.slice a n cap).ownBlock = some k → k ≠ g := fun k hk e => by
  subst e
  rcases h.2 with ⟨hv, _⟩ | ⟨g, cap', cur, hv, hg, hh, _⟩
  · rw [hv] at hk; simp [Value.ownBlock] at hk
  · rw [hv] at hk
    simp only [Value.ownBlock, Option.some.injEq] at hk
    subst hk
    unfold Bk at hp
    rw [hp] at hh
    injection hh with hh
    injection hh with _ ht
    exact absurd ht (by decide)
theorem CRow.far {w : World} {B n cap g o : Nat} {a : Option Addr} {c : Nat → Ce} {cs : Array Value} (h : CRow w B a n cap c) (hp : Bk w g 40 cs) (u : Value) : CRow (w.setCell ⟨g, o, none⟩ u) B a n cap c :=
  h.of_block fun k hk => Below.heap_setCell w ⟨g, o, none⟩ u k (h.ne_page hp k hk)
theorem page_res1 {fn : Func} {p : Tmp} (hf : fn.results = #[.cell p 40]) (tmps : Array Value) (w : World) (g : Nat) (cs : Array Value) (h : Bk w g 40 cs) (hs : cs.size = 16) (hp : tmps.getD p undef = .pointer (some ⟨g, 0, none⟩)) :
    (results fn tmps).run Try.prog w = .ok (.agg cs) w := by
  have e := run_loadPage w g cs h hs
  simp only [results, hf]
  have : (Sem.run Try.prog (asAddr (tmps.getD p undef)) w) = .ok ⟨g, 0, none⟩ w := by rw [hp]; simp [asAddr, Sem.run_pure]
  simp [Sem.run_bind, Result.andThen]
  simp [Array.getD_eq_getD_getElem?] at this
  rw [this]
  simp [e]
set_option maxRecDepth 100000 in
set_option maxHeartbeats 1000000 in
theorem over_any (p : Pg) (B : Nat) (a : Option Addr) (n cap : Nat) (c : Nat → Ce) (w : World) (hn : n ≤ 6) (hr : CRow w B a n cap c) :
    Calls Try.prog 48 #[p.v, .slice a n cap] w fun e w' => e = .returned (p.fill c n).v ∧ Below w.heap.size w w' := by
  have hstep := fill_step p c
  have hz := fill_zero p c
  have HSTEP := Lib.hid hstep; have HZ := Lib.hid hz
  clear hstep hz
  unfold Pg.v
  go_enter Try.func48, Try.ntmps48
  go_wp2_with fail
  have k0 : Bk ((w.alloc (.cells p.cs 40)).alloc (.cells Pg.zero.cs 40)) w.heap.size 40 (p.fill c 0).cs := by rw [HZ.out]; exact (Bk.new w _ _).alloc _
  have z0 : Bk ((w.alloc (.cells p.cs 40)).alloc (.cells Pg.zero.cs 40)) (w.heap.size + 1) 40 Pg.zero.cs := Bk.new2 w _ _ _
  have b0 : Below w.heap.size w ((w.alloc (.cells p.cs 40)).alloc (.cells Pg.zero.cs 40)) := ((Below.refl _ _).alloc (Nat.le_refl _) _).alloc (by simp) _
  have r0 := (hr.alloc (.cells p.cs 40)).alloc (.cells Pg.zero.cs 40)
  have K0 := Lib.hid k0; have Z0 := Lib.hid z0; have B0 := Lib.hid b0; have R0 := Lib.hid r0
  clear k0 z0 b0 r0 hr
  go_loopw [5] (fun x wr => ∃ j : Nat, j ≤ n ∧ x = .int .i64 j ∧ Bk wr w.heap.size 40 (p.fill c j).cs ∧ Bk wr (w.heap.size + 1) 40 Pg.zero.cs ∧ CRow wr B a n cap c ∧ Below w.heap.size w wr) (fun x _ => n - (intOf x).toNat)
  case atStart => exact ⟨0, by omega, rfl, K0.out, Z0.out, R0.out, B0.out⟩
  case round =>
    clear K0 Z0 B0 R0
    obtain ⟨j, hj, rfl, hk, hz, hr, hb⟩ := hrel
    have HK := Lib.hid hk; have HY := Lib.hid hz; have HR := Lib.hid hr; have HB := Lib.hid hb
    clear hk hz hr hb
    by_cases hlt : j < n
    · obtain ⟨g, hg, _, _⟩ := HR.out.form (by omega)
      subst hg
      obtain ⟨y0, y1⟩ := HR.out.cell hlt
      obtain ⟨x0, x1⟩ := pg_cell HK.out j (by omega)
      have f0 := HK.out.fz (4 + j * 2); have f1 := HK.out.fz (4 + j * 2 + 1)
      have k6 : Bk ((wr.setCell ⟨w.heap.size, 4 + j * 2, none⟩ (.int .i64 (c j).st)).setCell ⟨w.heap.size, 4 + j * 2 + 1, none⟩ (.string (c j).d)) w.heap.size 40 (p.fill c (j + 1)).cs := by
        have := (HK.out.set (4 + j * 2) (.int .i64 (c j).st)).set (4 + j * 2 + 1) (.string (c j).d)
        rw [Pg.cs_set _ j (by omega), HSTEP.out] at this
        exact this
      have K6 := Lib.hid k6
      have Z6 := Lib.hid ((HY.out.far (p := ⟨w.heap.size, 4 + j * 2, none⟩) (by simp) (.int .i64 (c j).st)).far (p := ⟨w.heap.size, 4 + j * 2 + 1, none⟩) (by simp) (.string (c j).d))
      have R6 := Lib.hid ((HR.out.far (o := 4 + j * 2) HK.out (.int .i64 (c j).st)).far (o := 4 + j * 2 + 1) (HK.out.set (4 + j * 2) _) (.string (c j).d))
      have B6 := Lib.hid ((HB.out.setCell (p := ⟨w.heap.size, 4 + j * 2, none⟩) (Nat.le_refl _) (.int .i64 (c j).st)).setCell (p := ⟨w.heap.size, 4 + j * 2 + 1, none⟩) (Nat.le_refl _) (.string (c j).d))
      clear k6 HK HY HR HB
      have j6 : (j : Int) < 6 := by omega
      generalize (c j).st = st at *
      generalize (c j).d = d at *
      go_wp2
      go_roundw
      case rel => exact ⟨j + 1, by omega, by go_num, K6.out, Z6.out, R6.out, B6.out⟩
      case measure => simp [intOf]; omega
    · obtain rfl : j = n := by omega
      go_wp2_with (first | (refine load_page rfl _ rfl w.heap.size (p.fill c j) rfl HK.out ?_) | (refine store_page rfl _ _ rfl (w.heap.size + 1) (p.fill c j) Pg.zero rfl rfl HY.out ?_))
      refine bodyPost_ret (page_res1 rfl _ _ (w.heap.size + 1) (p.fill c j).cs (row_bk HY.out) rfl rfl) rfl ?_
      exact ⟨rfl, below_setRow HB.out (by omega) _⟩
/-- The first n of these, nothing behind. -/
def upto (c : Nat → Ce) (n : Nat) : Nat → Ce := fun q => if q < n then c q else czero
set_option maxRecDepth 100000 in
set_option maxHeartbeats 1000000 in
theorem with_any (p : Pg) (g off n cap : Nat) (c : Nat → Ce) (w : World) (hn : n ≤ 6) (hg : g < w.heap.size)
    (hcell : ∀ j, j < n → w.cell? ⟨g, off + j * 2, none⟩ = some (.int .i64 (c j).st) ∧ w.cell? ⟨g, off + j * 2 + 1, none⟩ = some (.string (c j).d)) :
    Calls Try.prog 49 #[p.v, .slice (some ⟨g, off, none⟩) n cap] w fun e w' => e = .returned (p.fill (upto c n) 6).v ∧ Below w.heap.size w w' := by
  have HSTEP := Lib.hid (fill_step p (upto c n)); have HZ := Lib.hid (fill_zero p (upto c n))
  have HU := Lib.hid (show ∀ j, j < n → upto c n j = c j from fun j h => if_pos h)
  have HV := Lib.hid (show ∀ j, ¬ j < n → upto c n j = czero from fun j h => if_neg h)
  generalize upto c n = e at *
  have HC := Lib.hid hcell; have HG := Lib.hid hg
  clear hcell hg
  unfold Pg.v
  go_enter Try.func49, Try.ntmps49
  go_wp2_with fail
  have k0 : Bk ((w.alloc (.cells p.cs 40)).alloc (.cells Pg.zero.cs 40)) w.heap.size 40 (p.fill e 0).cs := by rw [HZ.out]; exact (Bk.new w _ _).alloc _
  have z0 : Bk ((w.alloc (.cells p.cs 40)).alloc (.cells Pg.zero.cs 40)) (w.heap.size + 1) 40 Pg.zero.cs := Bk.new2 w _ _ _
  have b0 : Below w.heap.size w ((w.alloc (.cells p.cs 40)).alloc (.cells Pg.zero.cs 40)) := ((Below.refl _ _).alloc (Nat.le_refl _) _).alloc (by simp) _
  have K0 := Lib.hid k0; have Z0 := Lib.hid z0; have B0 := Lib.hid b0
  clear k0 z0 b0
  go_loopw [5] (fun x wr => ∃ j : Nat, j ≤ 6 ∧ x = .int .i64 j ∧ Bk wr w.heap.size 40 (p.fill e j).cs ∧ Bk wr (w.heap.size + 1) 40 Pg.zero.cs ∧ Below w.heap.size w wr) (fun x _ => 6 - (intOf x).toNat)
  case atStart => exact ⟨0, by omega, rfl, K0.out, Z0.out, B0.out⟩
  case round =>
    clear K0 Z0 B0
    obtain ⟨j, hj, rfl, hk, hz, hb⟩ := hrel
    have HK := Lib.hid hk; have HY := Lib.hid hz; have HB := Lib.hid hb
    clear hk hz hb
    by_cases hlt : j < 6
    · obtain ⟨x0, x1⟩ := pg_cell HK.out j (by omega)
      have f0 := HK.out.fz (4 + j * 2); have f1 := HK.out.fz (4 + j * 2 + 1)
      have k5 : Bk ((wr.setCell ⟨w.heap.size, 4 + j * 2, none⟩ (.int .i64 0)).setCell ⟨w.heap.size, 4 + j * 2 + 1, none⟩ (.string ⟨#[]⟩)) w.heap.size 40 ((p.fill e j).set j czero).cs := by
        have := (HK.out.set (4 + j * 2) (.int .i64 0)).set (4 + j * 2 + 1) (.string ⟨#[]⟩)
        have h2 := Pg.cs_set (p.fill e j) j (by omega) czero
        unfold czero at h2 ⊢
        rw [h2] at this
        exact this
      have Z5 := Lib.hid ((HY.out.far (p := ⟨w.heap.size, 4 + j * 2, none⟩) (by simp) (.int .i64 0)).far (p := ⟨w.heap.size, 4 + j * 2 + 1, none⟩) (by simp) (.string ⟨#[]⟩))
      have B5 := Lib.hid ((HB.out.setCell (p := ⟨w.heap.size, 4 + j * 2, none⟩) (Nat.le_refl _) (.int .i64 0)).setCell (p := ⟨w.heap.size, 4 + j * 2 + 1, none⟩) (Nat.le_refl _) (.string ⟨#[]⟩))
      have K5 := Lib.hid k5
      have j6 : (j : Int) < 6 := by omega
      clear k5 HK HY HB
      by_cases h2 : j < n
      · obtain ⟨c0, c1⟩ := HC.out j h2
        have c0' := (B5.out.cell (p := ⟨g, off + j * 2, none⟩) HG.out).trans c0
        have c1' := (B5.out.cell (p := ⟨g, off + j * 2 + 1, none⟩) HG.out).trans c1
        have hlg := HG.out
        have k6 : Bk ((((wr.setCell ⟨w.heap.size, 4 + j * 2, none⟩ (.int .i64 0)).setCell ⟨w.heap.size, 4 + j * 2 + 1, none⟩ (.string ⟨#[]⟩)).setCell ⟨w.heap.size, 4 + j * 2, none⟩ (.int .i64 (c j).st)).setCell ⟨w.heap.size, 4 + j * 2 + 1, none⟩ (.string (c j).d)) w.heap.size 40 (p.fill e (j + 1)).cs := by
          have := (K5.out.set (4 + j * 2) (.int .i64 (c j).st)).set (4 + j * 2 + 1) (.string (c j).d)
          have h3 := HSTEP.out j
          rw [HU.out j h2] at h3
          rw [Pg.cs_set _ j (by omega), set_set, h3] at this
          exact this
        have Z6 := Lib.hid ((Z5.out.far (p := ⟨w.heap.size, 4 + j * 2, none⟩) (by simp) (.int .i64 (c j).st)).far (p := ⟨w.heap.size, 4 + j * 2 + 1, none⟩) (by simp) (.string (c j).d))
        have B6 := Lib.hid ((B5.out.setCell (p := ⟨w.heap.size, 4 + j * 2, none⟩) (Nat.le_refl _) (.int .i64 (c j).st)).setCell (p := ⟨w.heap.size, 4 + j * 2 + 1, none⟩) (Nat.le_refl _) (.string (c j).d))
        have K6 := Lib.hid k6
        have y0 := K5.out.cell (4 + j * 2); have y1 := K5.out.cell (4 + j * 2 + 1)
        clear k6 c0 c1 y0 y1 K5 Z5 B5
        generalize (c j).st = st at *
        generalize (c j).d = d at *
        go_wp2
        go_roundw
        case rel => exact ⟨j + 1, by omega, by go_num, K6.out, Z6.out, B6.out⟩
        case measure => simp [intOf]; omega
      · have k6 := K5.out
        rw [← HV.out j h2, HSTEP.out] at k6
        have K6 := Lib.hid k6
        clear k6 K5
        go_wp2
        go_roundw
        case rel => exact ⟨j + 1, by omega, by go_num, K6.out, Z5.out, B5.out⟩
        case measure => simp [intOf]; omega
    · obtain rfl : j = 6 := by omega
      go_wp2_with (first | (refine load_page rfl _ rfl w.heap.size (p.fill e 6) rfl HK.out ?_) | (refine store_page rfl _ _ rfl (w.heap.size + 1) (p.fill e 6) Pg.zero rfl rfl HY.out ?_))
      refine bodyPost_ret (page_res1 rfl _ _ (w.heap.size + 1) (p.fill e 6).cs (row_bk HY.out) rfl rfl) rfl ?_
      exact ⟨rfl, below_setRow HB.out (by omega) _⟩
end Go.Proofs.Ytedoechjjcbeeaa
