/- The walk of package page: Encode. -/
import Derived.Test.YtgafajbdmegfgaaGreatPgNum
import Derived.Deep.RegionHeld3
set_option linter.unusedVariables false
set_option linter.unusedSimpArgs false
namespace Go.Proofs.YtgafajbdmegfgaaGreat
open Go.RowKit

def Ce.bytes (c : Ce) : ByteArray := Oct.str c.st.toNat 1 ++ Oct.str c.d.size 1 ++ c.d ++ Fr.zs (34 - c.d.size)
def Pg.hbytes (p : Pg) : ByteArray := Oct.str p.k.toNat 1 ++ Oct.str p.l.toNat 1 ++ Oct.str p.s.toNat 2 ++ Oct.str p.n.toNat 4
def Pg.upTo (p : Pg) : Nat → ByteArray
  | 0 => p.hbytes
  | j + 1 => p.upTo j ++ (p.c j).bytes
def Pg.bytes (p : Pg) : ByteArray := p.upTo 6
def Pg.enc (p : Pg) : ByteArray := if p.ok then p.bytes else ⟨#[]⟩

theorem Ce.bytes_size (c : Ce) (h : c.ok) : c.bytes.size = 36 := by
  have := (Ce.ok_iff c).1 h
  unfold Ce.bytes
  simp only [ByteArray.size_append, Oct.str_size, Fr.zs_size]
  omega
theorem Pg.upTo_size (p : Pg) (h : ∀ i, i < 6 → (p.c i).ok) : ∀ j, j ≤ 6 → (p.upTo j).size = 8 + 36 * j
  | 0, _ => by simp only [Pg.upTo, Pg.hbytes, ByteArray.size_append, Oct.str_size]
  | j + 1, hj => by
    have ih := Pg.upTo_size p h j (by omega)
    simp only [Pg.upTo, ByteArray.size_append, ih, Ce.bytes_size _ (h j (by omega))]
    omega
theorem number1 (n : Int) (w : World) (h0 : 0 ≤ n) (h : n < 256) :
    Calls Tryz.prog 77 #[.int .i64 n, .int .i64 1] w fun e w' => e = .returned (.string (Oct.str n.toNat 1)) ∧ Below w.heap.size w w' := by
  obtain ⟨m, rfl⟩ := Int.eq_ofNat_of_zero_le h0
  exact number_any m 1 w (by omega) (by omega) (by omega) (by omega)
theorem number2 (n : Int) (w : World) (h0 : 0 ≤ n) (h : n < 65536) :
    Calls Tryz.prog 77 #[.int .i64 n, .int .i64 2] w fun e w' => e = .returned (.string (Oct.str n.toNat 2)) ∧ Below w.heap.size w w' := by
  obtain ⟨m, rfl⟩ := Int.eq_ofNat_of_zero_le h0
  exact number_any m 2 w (by omega) (by omega) (by omega) (by omega)
theorem number4 (n : Int) (w : World) (h0 : 0 ≤ n) (h : n < 4294967296) :
    Calls Tryz.prog 77 #[.int .i64 n, .int .i64 4] w fun e w' => e = .returned (.string (Oct.str n.toNat 4)) ∧ Below w.heap.size w w' := by
  obtain ⟨m, rfl⟩ := Int.eq_ofNat_of_zero_le h0
  exact number_any m 4 w (by omega) (by omega) (by omega) (by omega)
theorem pg_head {w : World} {g : Nat} {p : Pg} (h : Bk w g 41 p.cs) :
    w.cell? ⟨g, 0, none⟩ = some (.int .i64 p.k) ∧ w.cell? ⟨g, 1, none⟩ = some (.int .i64 p.l) ∧ w.cell? ⟨g, 2, none⟩ = some (.int .i64 p.s) ∧ w.cell? ⟨g, 3, none⟩ = some (.int .i64 p.n) :=
  ⟨h.cell 0, h.cell 1, h.cell 2, h.cell 3⟩
theorem pg_cells {w : World} {g : Nat} {p : Pg} (h : Bk w g 41 p.cs) :
    w.cell? ⟨g, 4, none⟩ = some (.int .i64 (p.c 0).st) ∧ w.cell? ⟨g, 5, none⟩ = some (.string (p.c 0).d) ∧ w.cell? ⟨g, 6, none⟩ = some (.int .i64 (p.c 1).st) ∧ w.cell? ⟨g, 7, none⟩ = some (.string (p.c 1).d)
    ∧ w.cell? ⟨g, 8, none⟩ = some (.int .i64 (p.c 2).st) ∧ w.cell? ⟨g, 9, none⟩ = some (.string (p.c 2).d) ∧ w.cell? ⟨g, 10, none⟩ = some (.int .i64 (p.c 3).st) ∧ w.cell? ⟨g, 11, none⟩ = some (.string (p.c 3).d)
    ∧ w.cell? ⟨g, 12, none⟩ = some (.int .i64 (p.c 4).st) ∧ w.cell? ⟨g, 13, none⟩ = some (.string (p.c 4).d) ∧ w.cell? ⟨g, 14, none⟩ = some (.int .i64 (p.c 5).st) ∧ w.cell? ⟨g, 15, none⟩ = some (.string (p.c 5).d) :=
  ⟨h.cell 4, h.cell 5, h.cell 6, h.cell 7, h.cell 8, h.cell 9, h.cell 10, h.cell 11, h.cell 12, h.cell 13, h.cell 14, h.cell 15⟩
theorem encode_bad (p : Pg) (w : World) (h : ¬ p.ok) :
    Calls Tryz.prog 57 #[p.v] w fun e w' => e = .returned (.tuple #[.string ⟨#[]⟩, .int .i64 1]) ∧ Below w.heap.size w w' := by
  have cc := fun w => check_any p w
  rw [Pg.err_no h] at cc
  have CC := Lib.hid cc
  clear cc h
  unfold Pg.v Pg.cs at *
  go_enter Tryz.func57, Tryz.ntmps57
  go_wp2_with fail
  have hb := fun o => (Below.refl w.heap.size w).alloc (Nat.le_refl _) o
  refine (CC.out _).mono ?_
  rintro e w2 ⟨rfl, hb2⟩
  have HB := Lib.hid (below_then (hb _) hb2 (by simp))
  clear hb hb2 CC
  go_wp2
  go_ret2
  exact ⟨rfl, HB.out⟩
set_option maxHeartbeats 4000000 in
theorem encode_good (p : Pg) (w : World) (h : p.ok) :
    Calls Tryz.prog 57 #[p.v] w fun e w' => e = .returned (.tuple #[.string p.bytes, .int .i64 0]) ∧ Below w.heap.size w w' := by
  have cc := fun w => check_any p w
  rw [Pg.err_ok h] at cc
  have CC := Lib.hid cc
  obtain ⟨k, l, s, n, c⟩ := p
  obtain ⟨⟨k0, k1, l0, l1, s0, s1, n0, n1⟩, hc⟩ := h
  dsimp only at k0 k1 l0 l1 s0 s1 n0 n1 hc
  have c1 := fun w => number1 k w k0 (by omega)
  have c2 := fun w => number1 l w l0 (by omega)
  have c3 := fun w => number2 s w s0 (by omega)
  have c4 := fun w => number4 n w n0 (by omega)
  obtain ⟨U, fin, hfe, hhb, hul, hus, hfin⟩ : ∃ (U : Nat → ByteArray) (fin : ByteArray), Pg.bytes ⟨k, l, s, n, c⟩ = fin ∧ U 0 = Oct.str k.toNat 1 ++ Oct.str l.toNat 1 ++ Oct.str s.toNat 2 ++ Oct.str n.toNat 4 ∧ (∀ j, U (j + 1) = U j ++ (c j).bytes) ∧ (∀ j, j ≤ 6 → (U j).size = 8 + 36 * j) ∧ fin = U 6 :=
    ⟨Pg.upTo ⟨k, l, s, n, c⟩, _, rfl, rfl, fun _ => rfl, Pg.upTo_size ⟨k, l, s, n, c⟩ hc, rfl⟩
  rw [hfe]
  have z1 : (Oct.str k.toNat 1).size = 1 := Oct.str_size _ _
  have z2 : (Oct.str l.toNat 1).size = 1 := Oct.str_size _ _
  have z3 : (Oct.str s.toNat 2).size = 2 := Oct.str_size _ _
  have z4 : (Oct.str n.toNat 4).size = 4 := Oct.str_size _ _
  generalize Oct.str k.toNat 1 = t1 at *
  generalize Oct.str l.toNat 1 = t2 at *
  generalize Oct.str s.toNat 2 = t3 at *
  generalize Oct.str n.toNat 4 = t4 at *
  have C1 := Lib.hid c1; have C2 := Lib.hid c2; have C3 := Lib.hid c3; have C4 := Lib.hid c4
  have HC := Lib.hid hc; have HHB := Lib.hid hhb; have HUS := Lib.hid hus; have HUL := Lib.hid hul; have HF := Lib.hid hfin
  clear hus hul hfin hfe hhb cc hc k0 k1 l0 l1 s0 s1 n0 n1 c1 c2 c3 c4
  have hbk : Bk (w.alloc (.cells (Pg.cs ⟨k, l, s, n, c⟩) 41)) w.heap.size 41 (Pg.cs ⟨k, l, s, n, c⟩) := Bk.new _ _ _
  have hb0 := (Below.refl w.heap.size w).alloc (Nat.le_refl _) (.cells (Pg.cs ⟨k, l, s, n, c⟩) 41)
  have HK0 := Lib.hid hbk; have HB0 := Lib.hid hb0
  clear hbk hb0
  unfold Pg.v
  generalize hcs : Pg.cs ⟨k, l, s, n, c⟩ = cs at *
  have hcs' := hcs
  unfold Pg.cs at hcs
  subst hcs
  go_enter Tryz.func57, Tryz.ntmps57
  go_wp2_with fail
  refine (CC.out _).mono ?_
  rintro e w2 ⟨rfl, hb2⟩
  have k2 := HK0.out.kept hb2
  rw [← hcs'] at k2
  have HK2 := Lib.hid k2; have HB2 := Lib.hid (below_then HB0.out hb2 (by simp))
  clear HK0 HB0 k2 hb2 CC hcs'
  go_wp2_with fail
  obtain ⟨x0, x1, x2, x3⟩ := pg_head HK2.out
  dsimp only at x0 x1 x2 x3
  go_region_held3 (fun w' => w'.cell? ⟨w.heap.size, 0, none⟩ = some (.int .i64 k) ∧ w'.cell? ⟨w.heap.size, 1, none⟩ = some (.int .i64 l) ∧ w'.cell? ⟨w.heap.size, 2, none⟩ = some (.int .i64 s) ∧ w'.cell? ⟨w.heap.size, 3, none⟩ = some (.int .i64 n)) (first | exact pg_head k6 | exact pg_head k5 | exact pg_head k4 | exact pg_head k3 | exact ⟨x0, x1, x2, x3⟩)
    (first
      | (go_simp; go_at_call_of 77 (Value.int .i64 k); refine (C1.out _).mono ?_; rintro e w3 ⟨rfl, hb3⟩; have k3 := (HK2.out.drew).kept hb3)
      | (go_simp; go_at_call_of 77 (Value.int .i64 l); refine (C2.out _).mono ?_; rintro e w4 ⟨rfl, hb4⟩; have k4 := k3.kept hb4)
      | (go_simp; go_at_call_of 77 (Value.int .i64 s); refine (C3.out _).mono ?_; rintro e w5 ⟨rfl, hb5⟩; have k5 := k4.kept hb5)
      | (go_simp; go_at_call_of 77 (Value.int .i64 n); refine (C4.out _).mono ?_; rintro e w6 ⟨rfl, hb6⟩; have k6 := k5.kept hb6))
  have HK6 := Lib.hid k6
  have HB6 := Lib.hid (below_then (below_then (below_then (below_then HB2.out.drew hb3 HB2.out.size) hb4 (by have := HB2.out.size; have := hb3.size; simp at this; omega)) hb5 (by have := HB2.out.size; have := hb3.size; have := hb4.size; simp at *; omega)) hb6 (by have := HB2.out.size; have := hb3.size; have := hb4.size; have := hb5.size; simp at *; omega))
  clear k3 k4 k5 k6 hb3 hb4 hb5 hb6 x0 x1 x2 x3 HK2 HB2 C1 C2 C3 C4
  obtain ⟨y0, y1, y2, y3, y4, y5, y6, y7, y8, y9, y10, y11⟩ := pg_cells HK6.out
  dsimp only at y0 y1 y2 y3 y4 y5 y6 y7 y8 y9 y10 y11
  go_wp2_with fail
  clear y0 y1 y2 y3 y4 y5 y6 y7 y8 y9 y10 y11 HK6
  rw [← HHB.out]
  clear HHB
  go_loopw [5, 30] (fun x i wr => ∃ j : Nat, j ≤ 6 ∧ i = .int .i64 j ∧ x = .string (U j) ∧ Below w.heap.size w wr) (fun _ i _ => 6 - (intOf i).toNat)
  case atStart => exact ⟨0, by omega, rfl, rfl, HB6.out⟩
  case round =>
    clear HB6
    obtain ⟨j, hj, rfl, rfl, hb⟩ := hrel
    by_cases hlt : j < 6
    · have ix := fun w => idx6 c j hlt w
      have hok := (Ce.ok_iff _).1 (HC.out j hlt)
      have hu := HUL.out j
      have hz := HUS.out j hj
      generalize U j = u at *
      generalize hu' : U (j + 1) = u' at *
      have HU' := Lib.hid hu'
      clear hu'
      generalize c j = cj at *
      obtain ⟨st, d⟩ := cj
      dsimp only [Ce.bytes] at hok hu ix
      have c1 := fun w => number1 st w hok.1 (by omega)
      have c2 := fun w => number1 (d.size : Int) w (by omega) (by omega)
      have c3 := fun w => zeros_any d.size w (by omega)
      rw [show ((d.size : Int)).toNat = d.size by omega] at c2
      have z1 : (Oct.str st.toNat 1).size = 1 := Oct.str_size _ _
      have z2 : (Oct.str d.size 1).size = 1 := Oct.str_size _ _
      have z3 : (Fr.zs (34 - d.size)).size = 34 - d.size := Fr.zs_size _
      generalize Oct.str st.toNat 1 = t1 at *
      generalize Oct.str d.size 1 = t2 at *
      generalize Fr.zs (34 - d.size) = t3 at *
      have FF := Lib.hid (show t1.size + t2.size + d.size + t3.size + u.size ≤ 1000 by omega)
      clear z1 z2 z3 hz hok
      have C1 := Lib.hid c1; have C2 := Lib.hid c2; have C3 := Lib.hid c3; have HU := Lib.hid hu
      have B7 := Lib.hid (hb.alloc hb.size (.cells #[.int .i64 st, .string d] 38))
      have hbk : Bk (wr.alloc (.cells #[.int .i64 st, .string d] 38)) wr.heap.size 38 #[.int .i64 st, .string d] := Bk.new _ _ _
      have HBK := Lib.hid hbk
      clear c1 c2 c3 hu hb hbk
      go_wp2_with fail
      generalize (wr.alloc (.cells #[.int .i64 st, .string d] 38)) = w7 at *
      have x0 := HBK.out.cell 0; have x1 := HBK.out.cell 1
      simp only [List.getElem?_toArray, List.getElem?_cons_zero, List.getElem?_cons_succ] at x0 x1
      have f0 := FF.out
      have n0 : ¬ 9223372036854775807 < t1.size + t2.size := by omega
      have n1 : ¬ 9223372036854775807 < t1.size + t2.size + d.size := by omega
      have n2 : ¬ 9223372036854775807 < t1.size + t2.size + d.size + t3.size := by omega
      have n3 : ¬ 9223372036854775807 < u.size + (t1.size + t2.size + d.size + t3.size) := by omega
      clear f0
      go_region_held3 (fun w' => w'.cell? ⟨wr.heap.size, 0, none⟩ = some (.int .i64 st) ∧ w'.cell? ⟨wr.heap.size, 1, none⟩ = some (.string d)) (first | exact ⟨k9.cell 0, k9.cell 1⟩ | exact ⟨k8.cell 0, k8.cell 1⟩ | exact ⟨x0, x1⟩)
        (first
          | (go_simp; go_at_call_of 77 (Value.int .i64 st); refine (C1.out _).mono ?_; rintro e w8 ⟨rfl, hb8⟩; have k8 := (HBK.out.drew).kept hb8)
          | (go_simp; go_at_call_of 77 (Value.int .i64 (d.size : Int)); refine (C2.out _).mono ?_; rintro e w9 ⟨rfl, hb9⟩; have k9 := k8.kept hb9)
          | (go_simp; go_at_call 74; refine (C3.out _).mono ?_; rintro e w10 ⟨rfl, hw⟩; subst w10))
      have B9 := Lib.hid (below_then (below_then B7.out.drew hb8 B7.out.size) hb9 (by have := B7.out.size; have := hb8.size; simp at *; omega))
      clear hb8 hb9 k8 k9 x0 x1 n0 n1 n2 n3 C1 C2 C3 HBK B7
      go_wp2
      go_roundw
      case rel => exact ⟨j + 1, by omega, by go_num, by rw [HU'.out, HU.out], B9.out⟩
      case measure => simp [intOf]; omega
    · have e6 : j = 6 := by omega
      have HE := Lib.hid (show U j = fin by rw [HF.out, e6])
      have HB := Lib.hid hb
      clear e6 hb
      go_wp2
      go_ret2
      refine ⟨?_, HB.out⟩
      rw [← HE.out]
      rfl
theorem Pg.enc_ok {p : Pg} (h : p.ok) : p.enc = p.bytes := if_pos h
theorem Pg.enc_no {p : Pg} (h : ¬ p.ok) : p.enc = ⟨#[]⟩ := if_neg h
theorem encode_any (p : Pg) (w : World) :
    Calls Tryz.prog 57 #[p.v] w fun e w' => e = .returned (.tuple #[.string p.enc, .int .i64 p.err]) ∧ Below w.heap.size w w' := by
  by_cases h : p.ok
  · rw [Pg.enc_ok h, Pg.err_ok h]; exact encode_good p w h
  · rw [Pg.enc_no h, Pg.err_no h]; exact encode_bad p w h
end Go.Proofs.YtgafajbdmegfgaaGreat
