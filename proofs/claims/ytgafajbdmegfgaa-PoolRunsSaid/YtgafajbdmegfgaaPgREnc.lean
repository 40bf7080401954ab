/- The walk of the document's own Encode. -/
import Derived.Test.YtgafajbdmegfgaaPgEnc
import Derived.Test.YtgafajbdmegfgaaPgRRight
import Derived.Deep.RegionHeldLaw
set_option linter.unusedVariables false
set_option linter.unusedSimpArgs false
namespace Go.Proofs.Ytgafajbdmegfgaa
open Go.RowKit

theorem run_zeros_at {P : Program} {w : World} {g : Nat} (src dst e : TypeId) (n : Nat)
    (hs : P.underlying src = some (.slice e)) (he : P.underlying e = some (.int .u8)) (hd : P.underlying dst = some .string) (h : Bk w g e (Fr.zc n)) :
    (convert src dst (.slice (some ⟨g, 0, none⟩) n n)).run P w = .ok (.string (Fr.zs n)) w := by
  rw [Oct.run_string _ src dst e _ n n (List.replicate n 0) hs he hd (by simp)]
  · simp [Fr.zs]
  · intro j v hv
    have hj : j < n := by
      have := (List.getElem?_eq_some_iff.1 hv).1
      simpa using this
    have e1 : ((⟨g, 0, none⟩ : Addr).add j) = ⟨g, j, none⟩ := by unfold Addr.add; split <;> simp_all
    rw [e1, h.cell]
    simp [Fr.zc, madeCells, hj, Nat.mod_one]
    simpa [hj] using hv
theorem rput1 (n : Int) (w : World) (h0 : 0 ≤ n) (h : n < 256) :
    Calls Try.prog 88 #[.int .i64 n, .int .i64 1] w fun e w' => e = .returned (.string (Oct.str n.toNat 1)) ∧ Below w.heap.size w w' := by
  obtain ⟨m, rfl⟩ := Int.eq_ofNat_of_zero_le h0
  exact put_any m 1 w (by omega) (by omega) (by omega) (by omega)
theorem rput2 (n : Int) (w : World) (h0 : 0 ≤ n) (h : n < 65536) :
    Calls Try.prog 88 #[.int .i64 n, .int .i64 2] w fun e w' => e = .returned (.string (Oct.str n.toNat 2)) ∧ Below w.heap.size w w' := by
  obtain ⟨m, rfl⟩ := Int.eq_ofNat_of_zero_le h0
  exact put_any m 2 w (by omega) (by omega) (by omega) (by omega)
theorem rput4 (n : Int) (w : World) (h0 : 0 ≤ n) (h : n < 4294967296) :
    Calls Try.prog 88 #[.int .i64 n, .int .i64 4] w fun e w' => e = .returned (.string (Oct.str n.toNat 4)) ∧ Below w.heap.size w w' := by
  obtain ⟨m, rfl⟩ := Int.eq_ofNat_of_zero_le h0
  exact put_any m 4 w (by omega) (by omega) (by omega) (by omega)
theorem rencode_bad (p : Pg) (w : World) (h : ¬ p.ok) :
    Calls Try.prog 61 #[p.v] w fun e w' => e = .returned (.tuple #[.string ⟨#[]⟩, .int .i64 1]) ∧ Below w.heap.size w w' := by
  have cc := fun w => rright_any p w
  rw [decide_eq_false h] at cc
  have CC := Lib.hid cc
  clear cc h
  unfold Pg.v Pg.cs at *
  go_enter Try.func61, Try.ntmps61
  go_wp2_with fail
  have hb := fun o => (Below.refl w.heap.size w).alloc (Nat.le_refl _) o
  refine (CC.out _).mono ?_
  rintro e w2 ⟨rfl, hb2⟩
  have HB := Lib.hid (below_then (hb _) hb2 (by simp))
  clear hb hb2 CC
  go_wp2
  go_ret2
  exact ⟨rfl, HB.out⟩
set_option maxHeartbeats 4000000 in
theorem rencode_good (p : Pg) (w : World) (h : p.ok) :
    Calls Try.prog 61 #[p.v] w fun e w' => e = .returned (.tuple #[.string p.bytes, .int .i64 0]) ∧ Below w.heap.size w w' := by
  have cc := fun w => rright_any p w
  rw [decide_eq_true h] at cc
  have CC := Lib.hid cc
  obtain ⟨k, l, s, n, c⟩ := p
  obtain ⟨⟨k0, k1, l0, l1, s0, s1, n0, n1⟩, hc⟩ := h
  dsimp only at k0 k1 l0 l1 s0 s1 n0 n1 hc
  have c1 := fun w => rput1 k w k0 (by omega)
  have c2 := fun w => rput1 l w l0 (by omega)
  have c3 := fun w => rput2 s w s0 (by omega)
  have c4 := fun w => rput4 n w n0 (by omega)
  obtain ⟨U, fin, hfe, hhb, hul, hus, hfin⟩ : ∃ (U : Nat → ByteArray) (fin : ByteArray), Pg.bytes ⟨k, l, s, n, c⟩ = fin ∧ U 0 = Oct.str k.toNat 1 ++ Oct.str l.toNat 1 ++ Oct.str s.toNat 2 ++ Oct.str n.toNat 4 ∧ (∀ j, U (j + 1) = U j ++ (c j).bytes) ∧ (∀ j, j ≤ 6 → (U j).size = 8 + 36 * j) ∧ fin = U 6 :=
    ⟨Pg.upTo ⟨k, l, s, n, c⟩, _, rfl, rfl, fun _ => rfl, Pg.upTo_size ⟨k, l, s, n, c⟩ hc, rfl⟩
  rw [hfe]
  have z1 : (Oct.str k.toNat 1).size = 1 := Oct.str_size _ _
  have z2 : (Oct.str l.toNat 1).size = 1 := Oct.str_size _ _
  have z3 : (Oct.str s.toNat 2).size = 2 := Oct.str_size _ _
  have z4 : (Oct.str n.toNat 4).size = 4 := Oct.str_size _ _
  generalize Oct.str k.toNat 1 = t1 at *
  generalize Oct.str l.toNat 1 = t2 at *
  generalize Oct.str s.toNat 2 = t3 at *
  generalize Oct.str n.toNat 4 = t4 at *
  have C1 := Lib.hid c1; have C2 := Lib.hid c2; have C3 := Lib.hid c3; have C4 := Lib.hid c4
  have HC := Lib.hid hc; have HHB := Lib.hid hhb; have HUS := Lib.hid hus; have HUL := Lib.hid hul; have HF := Lib.hid hfin
  clear hus hul hfin hfe hhb cc hc k0 k1 l0 l1 s0 s1 n0 n1 c1 c2 c3 c4
  have hbk : Bk (w.alloc (.cells (Pg.cs ⟨k, l, s, n, c⟩) 40)) w.heap.size 40 (Pg.cs ⟨k, l, s, n, c⟩) := Bk.new _ _ _
  have hb0 := (Below.refl w.heap.size w).alloc (Nat.le_refl _) (.cells (Pg.cs ⟨k, l, s, n, c⟩) 40)
  have HK0 := Lib.hid hbk; have HB0 := Lib.hid hb0
  clear hbk hb0
  unfold Pg.v
  generalize hcs : Pg.cs ⟨k, l, s, n, c⟩ = cs at *
  have hcs' := hcs
  unfold Pg.cs at hcs
  subst hcs
  go_enter Try.func61, Try.ntmps61
  go_wp2_with fail
  refine (CC.out _).mono ?_
  rintro e w2 ⟨rfl, hb2⟩
  have k2 := HK0.out.kept hb2
  rw [← hcs'] at k2
  have HK2 := Lib.hid k2; have HB2 := Lib.hid (below_then HB0.out hb2 (by simp))
  clear HK0 HB0 k2 hb2 CC hcs'
  go_wp2_with fail
  obtain ⟨x0, x1, x2, x3⟩ := pg_head HK2.out
  dsimp only at x0 x1 x2 x3
  go_region_held3 (fun w' => w'.cell? ⟨w.heap.size, 0, none⟩ = some (.int .i64 k) ∧ w'.cell? ⟨w.heap.size, 1, none⟩ = some (.int .i64 l) ∧ w'.cell? ⟨w.heap.size, 2, none⟩ = some (.int .i64 s) ∧ w'.cell? ⟨w.heap.size, 3, none⟩ = some (.int .i64 n)) (first | exact pg_head k6 | exact pg_head k5 | exact pg_head k4 | exact pg_head k3 | exact ⟨x0, x1, x2, x3⟩)
    (first
      | (go_simp; go_at_call_of 88 (Value.int .i64 k); refine (C1.out _).mono ?_; rintro e w3 ⟨rfl, hb3⟩; have k3 := (HK2.out.drew).kept hb3)
      | (go_simp; go_at_call_of 88 (Value.int .i64 l); refine (C2.out _).mono ?_; rintro e w4 ⟨rfl, hb4⟩; have k4 := k3.kept hb4)
      | (go_simp; go_at_call_of 88 (Value.int .i64 s); refine (C3.out _).mono ?_; rintro e w5 ⟨rfl, hb5⟩; have k5 := k4.kept hb5)
      | (go_simp; go_at_call_of 88 (Value.int .i64 n); refine (C4.out _).mono ?_; rintro e w6 ⟨rfl, hb6⟩; have k6 := k5.kept hb6))
  have HK6 := Lib.hid k6
  have HB6 := Lib.hid (below_then (below_then (below_then (below_then HB2.out.drew hb3 HB2.out.size) hb4 (by have := HB2.out.size; have := hb3.size; simp at this; omega)) hb5 (by have := HB2.out.size; have := hb3.size; have := hb4.size; simp at *; omega)) hb6 (by have := HB2.out.size; have := hb3.size; have := hb4.size; have := hb5.size; simp at *; omega))
  clear k3 k4 k5 k6 hb3 hb4 hb5 hb6 x0 x1 x2 x3 HK2 HB2 C1 C2 C3 C4
  go_wp2_with fail
  rw [← HHB.out]
  clear HHB
  have HH := Lib.hid (HK6.out.lt)
  go_loopw [4, 5] (fun x i wr => ∃ j : Nat, j ≤ 6 ∧ i = .int .i64 j ∧ x = .string (U j) ∧ Bk wr w.heap.size 40 (Pg.cs ⟨k, l, s, n, c⟩) ∧ Below w.heap.size w wr) (fun _ i _ => 6 - (intOf i).toNat)
  case atStart => exact ⟨0, by omega, rfl, rfl, HK6.out, HB6.out⟩
  case round =>
    clear HB6 HK6 HH
    obtain ⟨j, hj, rfl, rfl, hk, hb⟩ := hrel
    by_cases hlt : j < 6
    · have hok := (Ce.ok_iff _).1 (HC.out j hlt)
      have hu := HUL.out j
      have hz := HUS.out j hj
      have y0 : wr.cell? ⟨w.heap.size, 4 + j * 2, none⟩ = some (.int .i64 (c j).st) := by rw [hk.cell]; rcases six hlt with rfl | rfl | rfl | rfl | rfl | rfl <;> rfl
      have y1 : wr.cell? ⟨w.heap.size, 4 + j * 2 + 1, none⟩ = some (.string (c j).d) := by rw [hk.cell]; rcases six hlt with rfl | rfl | rfl | rfl | rfl | rfl <;> rfl
      generalize U j = u at *
      generalize hu' : U (j + 1) = u' at *
      have HU' := Lib.hid hu'
      clear hu'
      generalize c j = cj at *
      obtain ⟨st, d⟩ := cj
      dsimp only [Ce.bytes] at hok hu y0 y1
      have c1 := fun w => rput1 st w hok.1 (by omega)
      have c2 := fun w => rput1 (d.size : Int) w (by omega) (by omega)
      rw [show ((d.size : Int)).toNat = d.size by omega] at c2
      have z1 : (Oct.str st.toNat 1).size = 1 := Oct.str_size _ _
      have z2 : (Oct.str d.size 1).size = 1 := Oct.str_size _ _
      have z3 : (Fr.zs (34 - d.size)).size = 34 - d.size := Fr.zs_size _
      have rz := fun wx g (h : Bk wx g 5 (Fr.zc (34 - d.size))) => run_zeros_at (w := wx) (g := g) 61 9 5 (34 - d.size) Try.underlying61 Try.underlying5 Try.underlying9 h
      obtain ⟨i0, hi, hz0, hz1, hz2⟩ := info_parts Try.info5
      have hmk := fun wx => run_make (P := Try.prog) wx 61 5 i0 (.int .u8 0) Try.underlying61 hi hz0 .i64 .i64 (34 - (d.size : Int)) (34 - (d.size : Int)) (by omega) (by omega) (by rw [hz2]; omega) (by omega)
      simp only [hz1, Nat.mul_one, Value.cells, show (34 - (d.size : Int)).toNat = 34 - d.size by omega] at hmk
      have hmk' : ∀ wx : World, (Instr.makeSlice 61 (.int .i64 (34 - (d.size : Int))) (.int .i64 (34 - (d.size : Int)))).run Try.prog wx = .ok (.slice (some ⟨wx.heap.size, 0, none⟩) (34 - d.size) (34 - d.size)) (wx.alloc (.cells (Fr.zc (34 - d.size)) 5)) := hmk
      clear hi hz0 hz1 hz2 hmk
      generalize Oct.str st.toNat 1 = t1 at *
      generalize Oct.str d.size 1 = t2 at *
      generalize Fr.zs (34 - d.size) = t3 at *
      have FF := Lib.hid (show t1.size + t2.size + d.size + t3.size + u.size ≤ 1000 by omega)
      have hsub : IntKind.i64.wrap (34 - (d.size : Int)) = 34 - (d.size : Int) := by simp [IntKind.wrap, IntKind.signed, IntKind.bits]; omega
      have hst := fun wx : World => rz (wx.alloc (.cells (Fr.zc (34 - d.size)) 5)) wx.heap.size (Bk.new _ _ _)
      have RZ := Lib.hid rz
      clear z1 z2 z3 hz hok rz
      have C1 := Lib.hid c1; have C2 := Lib.hid c2; have HU := Lib.hid hu
      have B7 := Lib.hid (hb.alloc hb.size (.cells #[.int .i64 st, .string d] 37))
      have K7 := Lib.hid (hk.alloc (.cells #[.int .i64 st, .string d] 37))
      have hbk : Bk (wr.alloc (.cells #[.int .i64 st, .string d] 37)) wr.heap.size 37 #[.int .i64 st, .string d] := Bk.new _ _ _
      have HBK := Lib.hid hbk
      clear c1 c2 hu hb hbk hk
      go_wp2_with fail
      generalize (wr.alloc (.cells #[.int .i64 st, .string d] 37)) = w7 at *
      have x0 := HBK.out.cell 0; have x1 := HBK.out.cell 1
      simp only [List.getElem?_toArray, List.getElem?_cons_zero, List.getElem?_cons_succ] at x0 x1
      have f0 := FF.out
      have n0 : ¬ 9223372036854775807 < t1.size + t2.size := by omega
      have n1 : ¬ 9223372036854775807 < t1.size + t2.size + d.size := by omega
      have n2 : ¬ 9223372036854775807 < t1.size + t2.size + d.size + t3.size := by omega
      have n3 : ¬ 9223372036854775807 < u.size + (t1.size + t2.size + d.size + t3.size) := by omega
      clear f0 y0 y1
      have hz7 : w.heap.size ≤ w7.heap.size := B7.out.size
      have s7 := RZ.out (w7.alloc (.cells (Fr.zc (34 - d.size)) 5)).drew w7.heap.size (Bk.new _ _ _).drew
      go_region_held_law (fun w' => w'.cell? ⟨wr.heap.size, 0, none⟩ = some (.int .i64 st) ∧ w'.cell? ⟨wr.heap.size, 1, none⟩ = some (.string d))
        (first
          | exact ⟨k9.cell 0, k9.cell 1⟩ | exact ⟨(k9.alloc _).cell 0, (k9.alloc _).cell 1⟩ | exact ⟨k8.cell 0, k8.cell 1⟩ | exact ⟨(k8.alloc _).cell 0, (k8.alloc _).cell 1⟩ | exact ⟨x0, x1⟩ | exact ⟨(HBK.out.alloc _).drew.cell 0, (HBK.out.alloc _).drew.cell 1⟩)
        (first
        | (go_simp; go_at_call_of 88 (Value.int .i64 st); refine (C1.out _).mono ?_; rintro e w8 ⟨rfl, hb8⟩
           have k8 : Bk w8 wr.heap.size 37 #[.int .i64 st, .string d] := (by first | exact HBK.out.drew.kept hb8 | exact (HBK.out.alloc _).drew.kept hb8)
           have g8 : Bk w8 w.heap.size 40 (Pg.cs ⟨k, l, s, n, c⟩) := (by first | exact K7.out.drew.kept hb8 | exact (K7.out.alloc _).drew.kept hb8)
           have b8 : Below w.heap.size w w8 := (by first | exact below_then B7.out.drew hb8 hz7 | exact below_then (B7.out.alloc hz7 _).drew hb8 (by simp; omega))
           have hz8 : w.heap.size ≤ w8.heap.size := b8.size
           first
             | (have m8 : Bk w8 w7.heap.size 5 (Fr.zc (34 - d.size)) := (Bk.new w7 _ _).drew.kept hb8
                have s8 := RZ.out _ _ m8)
             | skip)
        | (go_simp; go_at_call_of 88 (Value.int .i64 (d.size : Int)); refine (C2.out _).mono ?_; rintro e w9 ⟨rfl, hb9⟩
           have k9 : Bk w9 wr.heap.size 37 #[.int .i64 st, .string d] := (by first | exact k8.kept hb9 | exact (k8.alloc _).kept hb9)
           have g9 : Bk w9 w.heap.size 40 (Pg.cs ⟨k, l, s, n, c⟩) := (by first | exact g8.kept hb9 | exact (g8.alloc _).kept hb9)
           have b9 : Below w.heap.size w w9 := (by first | exact below_then b8 hb9 hz8 | exact below_then (b8.alloc hz8 _) hb9 (by simp; omega))
           have hz9 : w.heap.size ≤ w9.heap.size := b9.size
           first
             | (have m9 := m8.kept hb9
                have s9 := RZ.out _ _ m9)
             | (have m9 : Bk w9 w8.heap.size 5 (Fr.zc (34 - d.size)) := (Bk.new w8 _ _).kept hb9
                have s9 := RZ.out _ _ m9)
             | skip))
      all_goals
        have G9 := Lib.hid g9; have B9 := Lib.hid b9; have HZ9 := Lib.hid hz9
        clear g9 b9 hz9 k9 hb9 k8 g8 b8 hz8 hb8 s7 hz7 n0 n1 n2 n3 x0 x1 HBK K7 B7 C1 C2 RZ hst hsub hmk'
        go_wp2
        go_roundw
        case rel => first
          | exact ⟨j + 1, by omega, by go_num, by rw [HU'.out, HU.out], G9.out, B9.out⟩
          | exact ⟨j + 1, by omega, by go_num, by rw [HU'.out, HU.out], G9.out.alloc _, B9.out.alloc HZ9.out _⟩
        case measure => simp [intOf]; omega
    · have e6 : j = 6 := by omega
      have HE := Lib.hid (show U j = fin by rw [HF.out, e6])
      have HB := Lib.hid hb
      clear e6 hb hk
      go_wp2
      go_ret2
      refine ⟨?_, HB.out⟩
      rw [← HE.out]
      rfl
theorem rencode_any (p : Pg) (w : World) :
    Calls Try.prog 61 #[p.v] w fun e w' => e = .returned (.tuple #[.string p.enc, .int .i64 p.err]) ∧ Below w.heap.size w w' := by
  by_cases h : p.ok
  · rw [Pg.enc_ok h, Pg.err_ok h]; exact rencode_good p w h
  · rw [Pg.enc_no h, Pg.err_no h]; exact rencode_bad p w h
end Go.Proofs.Ytgafajbdmegfgaa
