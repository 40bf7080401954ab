/- The walk of PageCells. -/
import Derived.Test.YtmjgakbaalbmfaaPgCells1
import Derived.Deep.QuietTactic
import Derived.BigQuiet
set_option linter.unusedVariables false
set_option linter.unusedSimpArgs false
namespace Go.Proofs.Ytmjgakbaalbmfaa
open Go.RowKit

set_option maxRecDepth 100000 in
set_option maxHeartbeats 8000000 in
theorem cells_core (p : Pg) (c : Ce) (i : Int) (w : World) (i0 : -9223372036854775808 ≤ i) (i1 : i ≤ 9223372036854775807) :
    Calls Try.prog 6 #[p.v, c.v, .int .i64 i] w fun e w' => e = .returned (.bool true) ∧ Below w.heap.size w w' := by
  have CA := Lib.hid awake_any
  obtain ⟨I, hI, eI⟩ := sec_spell6 i
  have CE := Lib.hid (fun w => encode_any p w)
  have CQ := Lib.hid (fun w => encode_any (p.with I c) w)
  have wc := with_cs p I c hI
  have WC := Lib.hid wc
  clear wc
  unfold Pg.v Ce.v
  go_enter Try.func6, Try.ntmps6
  go_wp2_with fail
  refine (CA.out _).mono ?_
  rintro e w2 ⟨rfl, hb2⟩
  have k2 := ((Bk.new w 26 p.cs).alloc (.cells #[.int .i64 c.st, .string c.d] 23)).kept hb2
  have c2 : Bk w2 (w.heap.size + 1) 23 #[.int .i64 c.st, .string c.d] := (Bk.new2 w (.cells p.cs 26) 23 #[.int .i64 c.st, .string c.d]).kept hb2
  have b2 := below_then (((Below.refl _ _).alloc (Nat.le_refl _) (.cells p.cs 26)).alloc (by simp) (.cells #[.int .i64 c.st, .string c.d] 23)) hb2 (by simp; omega)
  have h2 := k2.lt
  have k3 := k2.alloc (.cells p.cs 26)
  have n3 : Bk (w2.alloc (.cells p.cs 26)) w2.heap.size 26 p.cs := Bk.new _ _ _
  have c3 := c2.alloc (.cells p.cs 26)
  have b3 := b2.alloc b2.size (.cells p.cs 26)
  have hs2 : w.heap.size < w2.heap.size := h2
  have K2 := Lib.hid k2; have K3 := Lib.hid k3; have N3 := Lib.hid n3; have C3 := Lib.hid c3; have B3 := Lib.hid b3; have HS := Lib.hid hs2
  clear k2 c2 b2 h2 k3 n3 c3 b3 hb2 CA hs2
  go_wp2_with (first
    | (refine store_page_new rfl _ _ rfl p rfl rfl ?_
       generalize (w2.alloc (.cells p.cs 26)) = w3 at K3 N3 C3 B3 ⊢
       have x0 := C3.out.cell 0
       have x1 := C3.out.cell 1
       simp only [List.getElem?_toArray, List.getElem?_cons_zero, List.getElem?_cons_succ] at x0 x1
       obtain ⟨y0, y1⟩ := pg_cell N3.out I hI
       have f0 := N3.out.fz (4 + I * 2)
       have f1 := N3.out.fz (4 + I * 2 + 1)
       have n4 := (N3.out.set (4 + I * 2) (.int .i64 c.st)).set (4 + I * 2 + 1) (.string c.d)
       rw [WC.out] at n4
       have k4 := (K3.out.far (p := ⟨w2.heap.size, 4 + I * 2, none⟩) (by have := HS.out; show w.heap.size ≠ w2.heap.size; omega) (.int .i64 c.st)).far (p := ⟨w2.heap.size, 4 + I * 2 + 1, none⟩) (by have := HS.out; show w.heap.size ≠ w2.heap.size; omega) (.string c.d)
       have b4 := (B3.out.setCell (p := ⟨w2.heap.size, 4 + I * 2, none⟩) (by have := HS.out; show w.heap.size ≤ w2.heap.size; omega) (.int .i64 c.st)).setCell (p := ⟨w2.heap.size, 4 + I * 2 + 1, none⟩) (by have := HS.out; show w.heap.size ≤ w2.heap.size; omega) (.string c.d)
       have K4 := Lib.hid k4; have N4 := Lib.hid n4; have B4 := Lib.hid b4
       clear k4 n4 b4 K3 N3 C3 B3)
    | (refine load_page rfl _ rfl w.heap.size p rfl K2.out ?_)
    | (refine load_page rfl _ rfl w.heap.size p rfl K4.out ?_))
  refine (CE.out _).mono ?_
  rintro e w5 ⟨rfl, hb5⟩
  have K5 := Lib.hid (K4.out.kept hb5); have N5 := Lib.hid (N4.out.kept hb5); have B5 := Lib.hid (below_then B4.out hb5 B4.out.size)
  clear hb5 x0 x1 y0 y1 f0 f1 K4 N4 B4 CE K2
  go_wp2_with (refine load_page rfl _ rfl w2.heap.size (p.with I c) rfl N5.out ?_)
  refine (CQ.out _).mono ?_
  rintro e w6 ⟨rfl, hb6⟩
  have K6 := Lib.hid (K5.out.kept hb6); have N6 := Lib.hid (N5.out.kept hb6); have B6 := Lib.hid (below_then B5.out hb6 B5.out.size)
  clear hb6 K5 N5 B5 CQ WC
  by_cases hp : p.ok
  · by_cases hq : (p.with I c).ok
    · rw [Pg.enc_ok hp, Pg.err_ok hp, Pg.enc_ok hq, Pg.err_ok hq]
      have g1 := cut_front p I c hI hp hq
      have g2 := cut_rest p I c hI hp hq
      have g3 := same_bytes p (p.with I c) hp hq
      have g4 := fun w => page_eql p (p.with I c) w
      have z1 := bytes_size p hp
      have z2 := bytes_size _ hq
      generalize pgB p (p.with I c) = B at *
      generalize hqq : p.with I c = q at *
      generalize p.bytes = s at *
      generalize q.bytes = t at *
      have z1' : (s.size : Int) = 224 := by omega
      have z2' : (t.size : Int) = 224 := by omega
      obtain ⟨a0, a1, a2, a3⟩ := pg_head K6.out
      obtain ⟨a4, a5, a6, a7, a8, a9, a10, a11, a12, a13, a14, a15⟩ := pg_cells K6.out
      obtain ⟨b0, b1, b2, b3⟩ := pg_head N6.out
      obtain ⟨b4, b5, b6, b7, b8, b9, b10, b11, b12, b13, b14, b15⟩ := pg_cells N6.out
      unfold Pg.cs at g4
      go_wp2_with fail
      have m0 : (0 : Int) ≤ 8 + 36 * (I : Int) := by omega
      have m1 : 8 + 36 * (I : Int) ≤ (s.size : Int) := by omega
      have m2 : 8 + 36 * (I : Int) ≤ (t.size : Int) := by omega
      have m3 : (0 : Int) ≤ 8 + 36 * (I : Int) + 36 := by omega
      have m4 : 8 + 36 * (I : Int) + 36 ≤ (s.size : Int) := by omega
      have m5 : 8 + 36 * (I : Int) + 36 ≤ (t.size : Int) := by omega
      have m6 : IntKind.i64.wrap (8 + 36 * (I : Int) + 36) = 8 + 36 * (I : Int) + 36 := by simp [IntKind.wrap, IntKind.signed, IntKind.bits]; omega
      have m6' : wrap64 (8 + 36 * (I : Int) + 36) = 8 + 36 * (I : Int) + 36 := by unfold wrap64; omega
      have m7 : (8 + 36 * (I : Int)).toNat = 8 + 36 * I := by omega
      have m8 : (8 + 36 * (I : Int) + 36).toNat = 44 + 36 * I := by omega
      have g1' : ((s.extract 0 (8 + 36 * I)).toList == (t.extract 0 (8 + 36 * I)).toList) = true := by rw [g1]; simp
      have g2' : ((s.extract (44 + 36 * I) 224).toList == (t.extract (44 + 36 * I) 224).toList) = true := by rw [g2]; simp
      clear g1 g2 hp hq
      go_quiet (fail)
      have B7 := Lib.hid (below_drewN B6.out nq)
      clear a0 a1 a2 a3 a4 a5 a6 a7 a8 a9 a10 a11 a12 a13 a14 a15 b0 b1 b2 b3 b4 b5 b6 b7 b8 b9 b10 b11 b12 b13 b14 b15 g3 g4 g1' g2' K6 N6 B6
      go_wp2
      go_ret
      exact ⟨rfl, B7.out⟩
    · rw [Pg.err_ok hp, Pg.err_no hq]
      generalize p.enc = s at *
      generalize (p.with I c).enc = t at *
      go_wp2
      go_ret
      exact ⟨rfl, B6.out⟩
  · rw [Pg.err_no hp]
    generalize p.enc = s at *
    generalize (p.with I c).enc = t at *
    generalize (p.with I c).err = e2 at *
    go_wp2
    go_ret
    exact ⟨rfl, B6.out⟩
theorem walk_PageCells (v : Value) (p : Pg) (u : Value) (c : Ce) (i : Int) (w : World) (h : IsPage v p) (hc : IsCell u c) (i0 : -9223372036854775808 ≤ i) (i1 : i ≤ 9223372036854775807) :
    Calls Try.prog 6 #[v, u, .int .i64 i] w fun e w' => e = .returned (.bool true) ∧ Below w.heap.size w w' := by
  rw [h.val, hc.val]
  exact cells_core p c i w i0 i1
end Go.Proofs.Ytmjgakbaalbmfaa
