/- The walk of package node: Take. -/
import Derived.Test.YtedoechjjcbeeaaNodPut
set_option linter.unusedVariables false
set_option linter.unusedSimpArgs false
namespace Go.Proofs.Ytedoechjjcbeeaa
open Go.RowKit

def czero : Ce := ⟨0, ⟨#[]⟩⟩
/-- A page with a cell less. -/
def Pg.del (p : Pg) (i n : Nat) : Pg := (p.blit p.c i (i + 1) (n - 1 - i)).set (n - 1) czero
def takeOk (p : Pg) (i : Int) : Prop := 0 ≤ i ∧ i < (cnt p.c : Int)
instance (p : Pg) (i : Int) : Decidable (takeOk p i) := by unfold takeOk; infer_instance
def takeP (p : Pg) (i : Int) : Pg := if takeOk p i then p.del i.toNat (cnt p.c) else Pg.zero
def takeE (p : Pg) (i : Int) : Int := if takeOk p i then 0 else 1
set_option maxRecDepth 100000 in
set_option maxHeartbeats 400000 in
theorem take_bad (p : Pg) (i : Int) (w : World) (h : ¬ takeOk p i) :
    Calls Try.prog 28 #[p.v, .int .i64 i] w fun e w' => e = .returned (.tuple #[Pg.zero.v, .int .i64 1]) ∧ Below w.heap.size w w' := by
  have CC := Lib.hid (fun w => count_any p w)
  unfold takeOk at h
  generalize cnt p.c = n at *
  unfold Pg.v
  go_enter Try.func28, Try.ntmps28
  have k0 : Bk ((w.alloc (.cells p.cs 40)).alloc (.cells Pg.zero.cs 40)) w.heap.size 40 p.cs := (Bk.new w _ _).alloc _
  have z0 : Bk ((w.alloc (.cells p.cs 40)).alloc (.cells Pg.zero.cs 40)) (w.heap.size + 1) 40 Pg.zero.cs := Bk.new2 w _ _ _
  have b0 : Below w.heap.size w ((w.alloc (.cells p.cs 40)).alloc (.cells Pg.zero.cs 40)) := ((Below.refl _ _).alloc (Nat.le_refl _) _).alloc (by simp) _
  have K0 := Lib.hid k0; have Z0 := Lib.hid z0; have B0 := Lib.hid b0
  clear k0 z0 b0
  go_wp2_with (refine load_page rfl _ rfl w.heap.size p rfl K0.out ?_)
  refine (CC.out _).mono ?_
  rintro e w2 ⟨rfl, hb2⟩
  have Z2 := Lib.hid (Z0.out.kept hb2)
  have B2 := Lib.hid (below_then B0.out hb2 B0.out.size)
  clear hb2 K0 Z0 B0 CC
  by_cases h1 : i < 0
  · clear h
    go_wp2_with (refine store_page rfl _ _ rfl (w.heap.size + 1) Pg.zero Pg.zero rfl rfl Z2.out ?_)
    refine bodyPost_ret (page_res rfl _ _ (w.heap.size + 1) Pg.zero.cs (row_bk Z2.out) rfl rfl) rfl ?_
    exact ⟨rfl, below_setRow B2.out (by omega) _⟩
  · have h2 : (n : Int) ≤ i := by
      by_cases h2 : (n : Int) ≤ i
      · exact h2
      · exact absurd ⟨by omega, by omega⟩ h
    clear h
    go_wp2_with (refine store_page rfl _ _ rfl (w.heap.size + 1) Pg.zero Pg.zero rfl rfl Z2.out ?_)
    refine bodyPost_ret (page_res rfl _ _ (w.heap.size + 1) Pg.zero.cs (row_bk Z2.out) rfl rfl) rfl ?_
    exact ⟨rfl, below_setRow B2.out (by omega) _⟩
set_option maxRecDepth 100000 in
set_option maxHeartbeats 400000 in
theorem take_good (p : Pg) (i : Nat) (w : World) (h : i < cnt p.c) :
    Calls Try.prog 28 #[p.v, .int .i64 i] w fun e w' => e = .returned (.tuple #[(p.del i (cnt p.c)).v, .int .i64 0]) ∧ Below w.heap.size w w' := by
  have CC := Lib.hid (fun w => count_any p w)
  have hn := cnt_le p.c
  generalize cnt p.c = n at *
  obtain ⟨l, rfl⟩ : ∃ l, n = l + 1 := ⟨n - 1, by omega⟩
  have hres : p.del i (l + 1) = (p.blit p.c i (i + 1) (l - i)).set l czero := rfl
  have HRES := Lib.hid hres
  clear hres
  generalize p.del i (l + 1) = R at *
  obtain ⟨n, hnl⟩ : ∃ n, n = l + 1 := ⟨_, rfl⟩
  rw [← hnl] at CC h hn
  have HN := Lib.hid hnl
  have hl5 : l ≤ 5 := by omega
  have hil : i ≤ l := by omega
  have i1 : ¬ ((i : Int) < 0) := by omega
  have i2 : ¬ (n ≤ i) := by omega
  have i3 : ¬ ((n : Int) ≤ (i : Int)) := by omega
  clear hnl
  unfold Pg.v
  go_enter Try.func28, Try.ntmps28
  have k0 : Bk ((w.alloc (.cells p.cs 40)).alloc (.cells Pg.zero.cs 40)) w.heap.size 40 p.cs := (Bk.new w _ _).alloc _
  have z0 : Bk ((w.alloc (.cells p.cs 40)).alloc (.cells Pg.zero.cs 40)) (w.heap.size + 1) 40 Pg.zero.cs := Bk.new2 w _ _ _
  have b0 : Below w.heap.size w ((w.alloc (.cells p.cs 40)).alloc (.cells Pg.zero.cs 40)) := ((Below.refl _ _).alloc (Nat.le_refl _) _).alloc (by simp) _
  have K0 := Lib.hid k0; have Z0 := Lib.hid z0; have B0 := Lib.hid b0
  clear k0 z0 b0
  go_wp2_with (refine load_page rfl _ rfl w.heap.size p rfl K0.out ?_)
  refine (CC.out _).mono ?_
  rintro e w4 ⟨rfl, hb2⟩
  have K4 := Lib.hid (K0.out.kept hb2)
  have Z4 := Lib.hid (Z0.out.kept hb2)
  have B4 := Lib.hid (below_then B0.out hb2 B0.out.size)
  clear hb2 K0 Z0 B0 CC
  go_wp2_with fail
  have hnl := HN.out
  have a1 : IntKind.i64.wrap ((n : Int) - 1) = (l : Int) := by simp [IntKind.wrap, IntKind.signed, IntKind.bits]; omega
  have a2 : IntKind.i64.wrap ((i : Int) + 1) = (i : Int) + 1 := by simp [IntKind.wrap, IntKind.signed, IntKind.bits]; omega
  obtain ⟨m, hm⟩ : ∃ m, m = l - i := ⟨_, rfl⟩
  have s1 := fun wx => slice_lh w.heap.size i l hil (by omega) (i : Int) (l : Int) rfl rfl wx
  have s2 := fun wx => slice_lh w.heap.size (i + 1) n (by omega) hn ((i : Int) + 1) (n : Int) (by omega) rfl wx
  rw [← hm] at s1
  rw [show n - (i + 1) = m by omega] at s2
  have hd1 : 0 < m → (if 6 = i then (⟨w.heap.size, 4, none⟩ : Addr) else ⟨w.heap.size, 4 + i * 2, none⟩) = ⟨w.heap.size, 4 + i * 2, none⟩ := fun h => if_neg (by omega)
  have hd2 : 0 < m → (if 6 = i + 1 then (⟨w.heap.size, 4, none⟩ : Addr) else ⟨w.heap.size, 4 + (i + 1) * 2, none⟩) = ⟨w.heap.size, 4 + (i + 1) * 2, none⟩ := fun h => if_neg (by omega)
  generalize (if 6 = i then (⟨w.heap.size, 4, none⟩ : Addr) else ⟨w.heap.size, 4 + i * 2, none⟩) = p1 at *
  generalize (if 6 = i + 1 then (⟨w.heap.size, 4, none⟩ : Addr) else ⟨w.heap.size, 4 + (i + 1) * 2, none⟩) = p2 at *
  generalize 6 - i = q1 at s1
  generalize 6 - (i + 1) = q2 at s2
  have HD1 := Lib.hid hd1; have HD2 := Lib.hid hd2; have HM := Lib.hid hm
  clear hd1 hd2
  obtain ⟨w5, hcp, k5, g5, z5⟩ := run_copy_page w4.drew (some p1) (some p2) m q1 m q2 w.heap.size w.heap.size p p i (i + 1) m K4.out.drew K4.out.drew (by simp) (by omega) (by omega) (fun h => ⟨by rw [HD1.out h], by rw [HD2.out h]⟩)
  have K5 := Lib.hid k5; have G5 := Lib.hid g5; have Z5 := Lib.hid z5
  clear k5 g5 z5 hm hnl
  go_region
  have Y5 := Lib.hid (Z4.out.drew.grown G5.out (by simp))
  have B5 := Lib.hid (below_grow B4.out.drew G5.out (fun k hk => by injection hk with hk; omega) B4.out.size)
  have R5 := HRES.out
  have hm := HM.out
  rw [← hm] at R5
  clear hcp s1 s2 K4 Z4 B4 HD1 HD2 HM a2
  generalize p.blit p.c i (i + 1) m = P5 at *
  obtain ⟨x0, x1⟩ := pg_cell K5.out l (by omega)
  have e0 := K5.out.fz (4 + l * 2); have e1 := K5.out.fz (4 + l * 2 + 1)
  have k6 : Bk ((w5.setCell ⟨w.heap.size, 4 + l * 2, none⟩ (.int .i64 0)).setCell ⟨w.heap.size, 4 + l * 2 + 1, none⟩ (.string ⟨#[]⟩)) w.heap.size 40 R.cs := by
    have := (K5.out.set (4 + l * 2) (.int .i64 0)).set (4 + l * 2 + 1) (.string ⟨#[]⟩)
    have h2 := Pg.cs_set P5 l (by omega) czero
    unfold czero at h2 R5
    rw [h2, ← R5] at this
    exact this
  have z6 : Bk ((w5.setCell ⟨w.heap.size, 4 + l * 2, none⟩ (.int .i64 0)).setCell ⟨w.heap.size, 4 + l * 2 + 1, none⟩ (.string ⟨#[]⟩)) (w.heap.size + 1) 40 Pg.zero.cs := (Y5.out.far (by simp) _).far (by simp) _
  have K6 := Lib.hid k6; have Z6 := Lib.hid z6
  have B6 := Lib.hid ((B5.out.setCell (p := ⟨w.heap.size, 4 + l * 2, none⟩) (Nat.le_refl _) (.int .i64 0)).setCell (p := ⟨w.heap.size, 4 + l * 2 + 1, none⟩) (Nat.le_refl _) (.string ⟨#[]⟩))
  clear k6 z6 R5 hm K5 Y5 B5
  have j5 : (0 : Int) ≤ (l : Int) := by omega
  have j6 : (l : Int) < 6 := by omega
  go_wp2_with (first | (refine load_page rfl _ rfl w.heap.size R rfl K6.out ?_) | (refine store_page rfl _ _ rfl (w.heap.size + 1) R Pg.zero rfl rfl Z6.out ?_))
  refine bodyPost_ret (page_res rfl _ _ (w.heap.size + 1) R.cs (row_bk Z6.out) rfl rfl) rfl ?_
  exact ⟨rfl, below_setRow B6.out (by omega) _⟩
theorem take_any (p : Pg) (i : Int) (w : World) :
    Calls Try.prog 28 #[p.v, .int .i64 i] w fun e w' => e = .returned (.tuple #[(takeP p i).v, .int .i64 (takeE p i)]) ∧ Below w.heap.size w w' := by
  by_cases h : takeOk p i
  · unfold takeP takeE
    rw [if_pos h, if_pos h]
    obtain ⟨k, rfl⟩ := Int.eq_ofNat_of_zero_le h.1
    exact take_good p k w (by have := h.2; omega)
  · unfold takeP takeE
    rw [if_neg h, if_neg h]
    exact take_bad p i w h
end Go.Proofs.Ytedoechjjcbeeaa
