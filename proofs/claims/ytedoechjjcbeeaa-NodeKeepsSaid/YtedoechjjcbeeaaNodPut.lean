/- The walk of package node: Put. -/
import Derived.Test.YtedoechjjcbeeaaNodCopy
set_option linter.unusedVariables false
set_option linter.unusedSimpArgs false
namespace Go.Proofs.Ytedoechjjcbeeaa
open Go.RowKit

/-- A page with a cell more at a place. -/
def Pg.ins (p : Pg) (i n : Nat) (c : Ce) : Pg := (p.blit p.c (i + 1) i (n - i)).set i c
def putE (p : Pg) (c : Ce) : Int := if ¬ c.says then 1 else if fThere p c.key then 160 else if cnt p.c = 6 then 140 else 0
def putP (p : Pg) (c : Ce) : Pg := if putE p c = 0 then p.ins (fAt p c.key) (cnt p.c) c else Pg.zero
set_option maxRecDepth 100000 in
set_option maxHeartbeats 400000 in
theorem put_none (p : Pg) (c : Ce) (w : World) (hc : c.d.size ≤ maxLen) (h1 : ¬ c.says) :
    Calls Try.prog 26 #[p.v, c.v] w fun e w' => e = .returned (.tuple #[Pg.zero.v, .int .i64 1]) ∧ Below w.heap.size w w' := by
  have CK := Lib.hid (fun w => key_any c w hc)
  rw [decide_eq_false h1] at CK
  clear h1 hc
  unfold Ce.v at *
  generalize c.key = ky at *
  generalize c.rst = rs at *
  unfold Pg.v
  go_enter Try.func26, Try.ntmps26
  go_wp2_with fail
  have k0 : Bk (((w.alloc (.cells p.cs 40)).alloc (.cells #[.int .i64 c.st, .string c.d] 23)).alloc (.cells Pg.zero.cs 40)) w.heap.size 40 p.cs := ((Bk.new w _ _).alloc _).alloc _
  have z0 : Bk (((w.alloc (.cells p.cs 40)).alloc (.cells #[.int .i64 c.st, .string c.d] 23)).alloc (.cells Pg.zero.cs 40)) (w.heap.size + 1 + 1) 40 Pg.zero.cs := Bk.new3 w _ _ _ _
  have b0 : Below w.heap.size w (((w.alloc (.cells p.cs 40)).alloc (.cells #[.int .i64 c.st, .string c.d] 23)).alloc (.cells Pg.zero.cs 40)) := (((Below.refl _ _).alloc (Nat.le_refl _) _).alloc (by simp) _).alloc (by simp; omega) _
  have K0 := Lib.hid k0; have Z0 := Lib.hid z0; have B0 := Lib.hid b0
  clear k0 z0 b0
  refine (CK.out _).mono ?_
  rintro e w2 ⟨rfl, hb2⟩
  have K2 := Lib.hid (K0.out.kept hb2); have Z2 := Lib.hid (Z0.out.kept hb2)
  have B2 := Lib.hid (below_then B0.out hb2 B0.out.size)
  clear hb2 K0 Z0 B0 CK
  go_wp2_with (refine store_page rfl _ _ rfl (w.heap.size + 1 + 1) Pg.zero Pg.zero rfl rfl Z2.out ?_)
  refine bodyPost_ret (page_res rfl _ _ (w.heap.size + 1 + 1) Pg.zero.cs (row_bk Z2.out) rfl rfl) rfl ?_
  exact ⟨rfl, below_setRow B2.out (by omega) _⟩
set_option maxRecDepth 100000 in
set_option maxHeartbeats 400000 in
theorem put_there (p : Pg) (c : Ce) (w : World) (hs : Sz p.c) (hc : c.d.size ≤ maxLen) (h1 : c.says) (h2 : fThere p c.key = true) :
    Calls Try.prog 26 #[p.v, c.v] w fun e w' => e = .returned (.tuple #[Pg.zero.v, .int .i64 160]) ∧ Below w.heap.size w w' := by
  have CK := Lib.hid (fun w => key_any c w hc)
  have CF := Lib.hid (fun w => find_any p c.key w hs)
  rw [decide_eq_true h1] at CK
  unfold IsFnd at CF
  rw [h2] at CF
  generalize fAt p c.key = i at *
  clear h1 h2 hs hc
  unfold Ce.v at *
  generalize c.key = ky at *
  generalize c.rst = rs at *
  unfold Pg.v
  go_enter Try.func26, Try.ntmps26
  go_wp2_with fail
  have k0 : Bk (((w.alloc (.cells p.cs 40)).alloc (.cells #[.int .i64 c.st, .string c.d] 23)).alloc (.cells Pg.zero.cs 40)) w.heap.size 40 p.cs := ((Bk.new w _ _).alloc _).alloc _
  have z0 : Bk (((w.alloc (.cells p.cs 40)).alloc (.cells #[.int .i64 c.st, .string c.d] 23)).alloc (.cells Pg.zero.cs 40)) (w.heap.size + 1 + 1) 40 Pg.zero.cs := Bk.new3 w _ _ _ _
  have b0 : Below w.heap.size w (((w.alloc (.cells p.cs 40)).alloc (.cells #[.int .i64 c.st, .string c.d] 23)).alloc (.cells Pg.zero.cs 40)) := (((Below.refl _ _).alloc (Nat.le_refl _) _).alloc (by simp) _).alloc (by simp; omega) _
  have K0 := Lib.hid k0; have Z0 := Lib.hid z0; have B0 := Lib.hid b0
  clear k0 z0 b0
  refine (CK.out _).mono ?_
  rintro e w2 ⟨rfl, hb2⟩
  have K2 := Lib.hid (K0.out.kept hb2); have Z2 := Lib.hid (Z0.out.kept hb2)
  have B2 := Lib.hid (below_then B0.out hb2 B0.out.size)
  clear hb2 K0 Z0 B0 CK
  go_wp2_with (refine load_page rfl _ rfl w.heap.size p rfl K2.out ?_)
  refine (CF.out _).mono ?_
  rintro e w3 ⟨j, b, rfl, ⟨rfl, rfl⟩, hb3⟩
  have Z3 := Lib.hid (Z2.out.kept hb3)
  have B3 := Lib.hid (below_then B2.out hb3 B2.out.size)
  clear hb3 K2 Z2 B2 CF
  go_wp2_with (refine store_page rfl _ _ rfl (w.heap.size + 1 + 1) Pg.zero Pg.zero rfl rfl Z3.out ?_)
  refine bodyPost_ret (page_res rfl _ _ (w.heap.size + 1 + 1) Pg.zero.cs (row_bk Z3.out) rfl rfl) rfl ?_
  exact ⟨rfl, below_setRow B3.out (by omega) _⟩
set_option maxRecDepth 100000 in
set_option maxHeartbeats 400000 in
theorem put_full (p : Pg) (c : Ce) (w : World) (hs : Sz p.c) (hc : c.d.size ≤ maxLen) (h1 : c.says) (h2 : fThere p c.key = false) (h3 : cnt p.c = 6) :
    Calls Try.prog 26 #[p.v, c.v] w fun e w' => e = .returned (.tuple #[Pg.zero.v, .int .i64 140]) ∧ Below w.heap.size w w' := by
  have CK := Lib.hid (fun w => key_any c w hc)
  have CF := Lib.hid (fun w => find_any p c.key w hs)
  have CC := Lib.hid (fun w => count_any p w)
  rw [h3] at CC
  rw [decide_eq_true h1] at CK
  unfold IsFnd at CF
  rw [h2] at CF
  generalize fAt p c.key = i at *
  clear h1 h2 h3 hs hc
  unfold Ce.v at *
  generalize c.key = ky at *
  generalize c.rst = rs at *
  unfold Pg.v
  go_enter Try.func26, Try.ntmps26
  go_wp2_with fail
  have k0 : Bk (((w.alloc (.cells p.cs 40)).alloc (.cells #[.int .i64 c.st, .string c.d] 23)).alloc (.cells Pg.zero.cs 40)) w.heap.size 40 p.cs := ((Bk.new w _ _).alloc _).alloc _
  have z0 : Bk (((w.alloc (.cells p.cs 40)).alloc (.cells #[.int .i64 c.st, .string c.d] 23)).alloc (.cells Pg.zero.cs 40)) (w.heap.size + 1 + 1) 40 Pg.zero.cs := Bk.new3 w _ _ _ _
  have b0 : Below w.heap.size w (((w.alloc (.cells p.cs 40)).alloc (.cells #[.int .i64 c.st, .string c.d] 23)).alloc (.cells Pg.zero.cs 40)) := (((Below.refl _ _).alloc (Nat.le_refl _) _).alloc (by simp) _).alloc (by simp; omega) _
  have K0 := Lib.hid k0; have Z0 := Lib.hid z0; have B0 := Lib.hid b0
  clear k0 z0 b0
  refine (CK.out _).mono ?_
  rintro e w2 ⟨rfl, hb2⟩
  have K2 := Lib.hid (K0.out.kept hb2); have Z2 := Lib.hid (Z0.out.kept hb2)
  have B2 := Lib.hid (below_then B0.out hb2 B0.out.size)
  clear hb2 K0 Z0 B0 CK
  go_wp2_with (refine load_page rfl _ rfl w.heap.size p rfl K2.out ?_)
  refine (CF.out _).mono ?_
  rintro e w3 ⟨j, b, rfl, ⟨rfl, rfl⟩, hb3⟩
  have K3 := Lib.hid (K2.out.kept hb3); have Z3 := Lib.hid (Z2.out.kept hb3)
  have B3 := Lib.hid (below_then B2.out hb3 B2.out.size)
  clear hb3 K2 Z2 B2 CF
  go_wp2_with (refine load_page rfl _ rfl w.heap.size p rfl K3.out ?_)
  refine (CC.out _).mono ?_
  rintro e w4 ⟨rfl, hb4⟩
  have Z4 := Lib.hid (Z3.out.kept hb4)
  have B4 := Lib.hid (below_then B3.out hb4 B3.out.size)
  clear hb4 K3 Z3 B3 CC
  go_wp2_with (refine store_page rfl _ _ rfl (w.heap.size + 1 + 1) Pg.zero Pg.zero rfl rfl Z4.out ?_)
  refine bodyPost_ret (page_res rfl _ _ (w.heap.size + 1 + 1) Pg.zero.cs (row_bk Z4.out) rfl rfl) rfl ?_
  exact ⟨rfl, below_setRow B4.out (by omega) _⟩
set_option maxRecDepth 100000 in
set_option maxHeartbeats 400000 in
theorem put_good (p : Pg) (c : Ce) (w : World) (hs : Sz p.c) (hc : c.d.size ≤ maxLen) (h1 : c.says) (h2 : fThere p c.key = false) (h3 : cnt p.c ≠ 6) :
    Calls Try.prog 26 #[p.v, c.v] w fun e w' => e = .returned (.tuple #[(p.ins (fAt p c.key) (cnt p.c) c).v, .int .i64 0]) ∧ Below w.heap.size w w' := by
  have CK := Lib.hid (fun w => key_any c w hc)
  have CF := Lib.hid (fun w => find_any p c.key w hs)
  have CC := Lib.hid (fun w => count_any p w)
  rw [decide_eq_true h1] at CK
  unfold IsFnd at CF
  rw [h2] at CF
  have hi := fAt_le p c.key
  have hn := cnt_le p.c
  generalize fAt p c.key = i at *
  generalize cnt p.c = n at *
  have hn5 : n ≤ 5 := by omega
  have hn6 : ((n : Int) == 6) = false := by simp; omega
  have HI := Lib.hid hi; have HN := Lib.hid hn5
  clear h1 h2 h3 hs hc
  have hres : p.ins i n c = (p.blit p.c (i + 1) i (n - i)).set i c := rfl
  have HRES := Lib.hid hres
  clear hres
  generalize p.ins i n c = R at *
  unfold Ce.v at *
  generalize c.key = ky at *
  generalize c.rst = rs at *
  unfold Pg.v
  go_enter Try.func26, Try.ntmps26
  go_wp2_with fail
  have k0 : Bk (((w.alloc (.cells p.cs 40)).alloc (.cells #[.int .i64 c.st, .string c.d] 23)).alloc (.cells Pg.zero.cs 40)) w.heap.size 40 p.cs := ((Bk.new w _ _).alloc _).alloc _
  have c0 : Bk (((w.alloc (.cells p.cs 40)).alloc (.cells #[.int .i64 c.st, .string c.d] 23)).alloc (.cells Pg.zero.cs 40)) (w.heap.size + 1) 23 #[.int .i64 c.st, .string c.d] := (Bk.new2 w _ _ _).alloc _
  have z0 : Bk (((w.alloc (.cells p.cs 40)).alloc (.cells #[.int .i64 c.st, .string c.d] 23)).alloc (.cells Pg.zero.cs 40)) (w.heap.size + 1 + 1) 40 Pg.zero.cs := Bk.new3 w _ _ _ _
  have b0 : Below w.heap.size w (((w.alloc (.cells p.cs 40)).alloc (.cells #[.int .i64 c.st, .string c.d] 23)).alloc (.cells Pg.zero.cs 40)) := (((Below.refl _ _).alloc (Nat.le_refl _) _).alloc (by simp) _).alloc (by simp; omega) _
  have K0 := Lib.hid k0; have C0 := Lib.hid c0; have Z0 := Lib.hid z0; have B0 := Lib.hid b0
  clear k0 c0 z0 b0
  refine (CK.out _).mono ?_
  rintro e w2 ⟨rfl, hb2⟩
  have K2 := Lib.hid (K0.out.kept hb2); have C2 := Lib.hid (C0.out.kept hb2); have Z2 := Lib.hid (Z0.out.kept hb2)
  have B2 := Lib.hid (below_then B0.out hb2 B0.out.size)
  clear hb2 K0 C0 Z0 B0 CK
  go_wp2_with (refine load_page rfl _ rfl w.heap.size p rfl K2.out ?_)
  refine (CF.out _).mono ?_
  rintro e w3 ⟨j, b, rfl, ⟨rfl, rfl⟩, hb3⟩
  have K3 := Lib.hid (K2.out.kept hb3); have C3 := Lib.hid (C2.out.kept hb3); have Z3 := Lib.hid (Z2.out.kept hb3)
  have B3 := Lib.hid (below_then B2.out hb3 B2.out.size)
  clear hb3 K2 C2 Z2 B2 CF
  go_wp2_with (refine load_page rfl _ rfl w.heap.size p rfl K3.out ?_)
  refine (CC.out _).mono ?_
  rintro e w4 ⟨rfl, hb4⟩
  have K4 := Lib.hid (K3.out.kept hb4); have C4 := Lib.hid (C3.out.kept hb4); have Z4 := Lib.hid (Z3.out.kept hb4)
  have B4 := Lib.hid (below_then B3.out hb4 B3.out.size)
  clear hb4 K3 C3 Z3 B3 CC
  go_wp2_with fail
  have a1 : IntKind.i64.wrap ((j : Int) + 1) = (j : Int) + 1 := by simp [IntKind.wrap, IntKind.signed, IntKind.bits]; omega
  have a2 : IntKind.i64.wrap ((n : Int) + 1) = (n : Int) + 1 := by simp [IntKind.wrap, IntKind.signed, IntKind.bits]; omega
  obtain ⟨m, hm⟩ : ∃ m, m = n - j := ⟨_, rfl⟩
  have s1 := fun wx => slice_lh w.heap.size (j + 1) (n + 1) (by omega) (by omega) ((j : Int) + 1) ((n : Int) + 1) (by omega) (by omega) wx
  have s2 := fun wx => slice_lh w.heap.size j n hi (by omega) (j : Int) (n : Int) rfl rfl wx
  rw [show n + 1 - (j + 1) = m by omega] at s1
  rw [← hm] at s2
  have hd1 : 0 < m → (if 6 = j + 1 then (⟨w.heap.size, 4, none⟩ : Addr) else ⟨w.heap.size, 4 + (j + 1) * 2, none⟩) = ⟨w.heap.size, 4 + (j + 1) * 2, none⟩ := fun h => if_neg (by omega)
  have hd2 : 0 < m → (if 6 = j then (⟨w.heap.size, 4, none⟩ : Addr) else ⟨w.heap.size, 4 + j * 2, none⟩) = ⟨w.heap.size, 4 + j * 2, none⟩ := fun h => if_neg (by omega)
  generalize (if 6 = j + 1 then (⟨w.heap.size, 4, none⟩ : Addr) else ⟨w.heap.size, 4 + (j + 1) * 2, none⟩) = p1 at *
  generalize (if 6 = j then (⟨w.heap.size, 4, none⟩ : Addr) else ⟨w.heap.size, 4 + j * 2, none⟩) = p2 at *
  generalize 6 - (j + 1) = q1 at s1
  generalize 6 - j = q2 at s2
  have HD1 := Lib.hid hd1; have HD2 := Lib.hid hd2; have HM := Lib.hid hm
  have HJ := Lib.hid (show j + m = n by omega)
  clear hd1 hd2 hm
  obtain ⟨w5, hcp, k5, g5, z5⟩ := run_copy_page w4.drew (some p1) (some p2) m q1 m q2 w.heap.size w.heap.size p p (j + 1) j m K4.out.drew K4.out.drew (by simp) (by have := HJ.out; omega) (by have := HJ.out; omega) (fun h => ⟨by rw [HD1.out h], by rw [HD2.out h]⟩)
  have K5 := Lib.hid k5; have G5 := Lib.hid g5; have Z5 := Lib.hid z5
  clear k5 g5 z5
  have f0 := hi; have f1 := hn
  go_region
  have C5 := Lib.hid (C4.out.drew.grown G5.out (by simp)); have Y5 := Lib.hid (Z4.out.drew.grown G5.out (by simp; omega))
  have B5 := Lib.hid (below_grow B4.out.drew G5.out (fun k hk => by injection hk with hk; omega) B4.out.size)
  have hm : n - j = m := by have := HJ.out; omega
  clear hcp s1 s2 K4 C4 Z4 B4 HD1 HD2 HM HJ a1 a2
  have R5 := HRES.out
  rw [hm] at R5
  generalize p.blit p.c (j + 1) j m = P5 at *
  have c0 := C5.out.cell 0; have c1 := C5.out.cell 1
  simp only [List.getElem?_toArray, List.getElem?_cons_zero, List.getElem?_cons_succ] at c0 c1
  obtain ⟨x0, x1⟩ := pg_cell K5.out j (by omega)
  have e0 := K5.out.fz (4 + j * 2); have e1 := K5.out.fz (4 + j * 2 + 1)
  have k6 : Bk ((w5.setCell ⟨w.heap.size, 4 + j * 2, none⟩ (.int .i64 c.st)).setCell ⟨w.heap.size, 4 + j * 2 + 1, none⟩ (.string c.d)) w.heap.size 40 R.cs := by
    have := (K5.out.set (4 + j * 2) (.int .i64 c.st)).set (4 + j * 2 + 1) (.string c.d)
    rw [Pg.cs_set P5 j (by omega) c, ← R5] at this
    exact this
  have z6 : Bk ((w5.setCell ⟨w.heap.size, 4 + j * 2, none⟩ (.int .i64 c.st)).setCell ⟨w.heap.size, 4 + j * 2 + 1, none⟩ (.string c.d)) (w.heap.size + 1 + 1) 40 Pg.zero.cs := (Y5.out.far (by simp; omega) _).far (by simp; omega) _
  have K6 := Lib.hid k6; have Z6 := Lib.hid z6
  have B6 := Lib.hid ((B5.out.setCell (p := ⟨w.heap.size, 4 + j * 2, none⟩) (Nat.le_refl _) (.int .i64 c.st)).setCell (p := ⟨w.heap.size, 4 + j * 2 + 1, none⟩) (Nat.le_refl _) (.string c.d))
  clear k6 z6 R5 hm K5 C5 Y5 B5
  have j6 : (j : Int) < 6 := by omega
  go_wp2_with (first | (refine load_page rfl _ rfl w.heap.size R rfl K6.out ?_) | (refine store_page rfl _ _ rfl (w.heap.size + 1 + 1) R Pg.zero rfl rfl Z6.out ?_))
  refine bodyPost_ret (page_res rfl _ _ (w.heap.size + 1 + 1) R.cs (row_bk Z6.out) rfl rfl) rfl ?_
  exact ⟨rfl, below_setRow B6.out (by omega) _⟩
theorem nput_any (p : Pg) (c : Ce) (w : World) (hs : Sz p.c) (hc : c.d.size ≤ maxLen) :
    Calls Try.prog 26 #[p.v, c.v] w fun e w' => e = .returned (.tuple #[(putP p c).v, .int .i64 (putE p c)]) ∧ Below w.heap.size w w' := by
  by_cases h1 : c.says
  · by_cases h2 : fThere p c.key = true
    · have e : putE p c = 160 := by unfold putE; rw [if_neg (by simp [h1]), if_pos h2]
      unfold putP
      rw [e, if_neg (by decide)]
      exact put_there p c w hs hc h1 h2
    · have h2' : fThere p c.key = false := by simpa using h2
      by_cases h3 : cnt p.c = 6
      · have e : putE p c = 140 := by unfold putE; rw [if_neg (by simp [h1]), if_neg h2, if_pos h3]
        unfold putP
        rw [e, if_neg (by decide)]
        exact put_full p c w hs hc h1 h2' h3
      · have e : putE p c = 0 := by unfold putE; rw [if_neg (by simp [h1]), if_neg h2, if_neg h3]
        unfold putP
        rw [e, if_pos rfl]
        exact put_good p c w hs hc h1 h2' h3
  · have e : putE p c = 1 := by unfold putE; rw [if_pos h1]
    unfold putP
    rw [e, if_neg (by decide)]
    exact put_none p c w hc h1
end Go.Proofs.Ytedoechjjcbeeaa
