/- The walk of PageRooms. -/
import Derived.Test.YtmjgakbaalbmfaaPgEq
import Derived.Test.YtmjgakbaalbmfaaPgWalk2
import Derived.Test.YtmjgakbaalbmfaaPgRead
set_option linter.unusedVariables false
set_option linter.unusedSimpArgs false
namespace Go.Proofs.Ytmjgakbaalbmfaa
open Go.RowKit

theorem pg_cell {w : World} {g : Nat} {p : Pg} (h : Bk w g 26 p.cs) (j : Nat) (hj : j < 6) : w.cell? ⟨g, 4 + j * 2, none⟩ = some (.int .i64 (p.c j).st) ∧ w.cell? ⟨g, 4 + j * 2 + 1, none⟩ = some (.string (p.c j).d) := by
  rw [h.cell, h.cell]
  rcases six hj with rfl | rfl | rfl | rfl | rfl | rfl <;> exact ⟨rfl, rfl⟩
theorem slice_cells (g i : Nat) (hi : i ≤ 6) (wx : World) : (Instr.sliceAt 24 (.pointer (some ⟨g, 4, none⟩)) none (some (.int .i64 (i : Int))) none).run Try.prog wx = .ok (.slice (some ⟨g, 4, none⟩) i 6) wx := by
  have hal : Try.prog.arrayLen 24 = 6 := by kernel_rfl
  have hel : Try.prog.elem 24 = 23 := by kernel_rfl
  obtain ⟨i0, hi0⟩ := info_of_underlying (P := Try.prog) Try.underlying23
  rw [run_sliceAt_array_h wx 24 _ (by rw [hal, hel]; exact Try.underlying24) .i64 (i : Int) (by omega) (by rw [hal]; omega), hel, run_sizeOf wx hi0, hal]
  simp [slicedAt, Addr.add, Result.andThen]
set_option maxRecDepth 100000 in
set_option maxHeartbeats 4000000 in
theorem rooms_core (p : Pg) (w : World) (ca : ∀ w, Calls Try.prog 8 #[] w fun e w' => e = .returned (.bool true) ∧ Below w.heap.size w w') :
    Calls Try.prog 7 #[p.v] w fun e w' => e = .returned (.bool true) ∧ Below w.heap.size w w' := by
  have CA := Lib.hid ca
  have CM := Lib.hid (fun w => room_any p w)
  clear ca
  unfold Pg.v
  go_enter Try.func7, Try.ntmps7
  go_wp2_with fail
  refine (CA.out _).mono ?_
  rintro e w2 ⟨rfl, hb2⟩
  have k2 := (Bk.new w 26 p.cs).kept hb2
  have b2 := below_then ((Below.refl _ _).alloc (Nat.le_refl _) (.cells p.cs 26)) hb2 (by simp)
  have K2 := Lib.hid k2; have B2 := Lib.hid b2
  clear k2 b2 hb2 CA
  go_wp2_with (refine load_page rfl _ rfl w.heap.size p rfl K2.out ?_)
  refine (CM.out _).mono ?_
  rintro e w3 ⟨i, ok, rfl, hr, hb3⟩
  have K3 := Lib.hid (K2.out.kept hb3); have B3 := Lib.hid (below_then B2.out hb3 B2.out.size)
  clear hb3 K2 B2 CM
  rcases hr with ⟨rfl, hi, h0, hq⟩ | ⟨rfl, rfl, hq⟩
  · obtain ⟨y0, _⟩ := pg_cell K3.out i hi
    rw [h0] at y0
    have HQ := Lib.hid hq
    clear hq
    have hsl := fun wx => slice_cells w.heap.size i (by omega) wx
    have B0 := Lib.hid (show ∀ q, q < i → ((p.c q).st == 0) = false from fun q hq => by simp [HQ.out q hq])
    clear HQ y0
    obtain ⟨y0, _⟩ := pg_cell K3.out i hi
    rw [h0] at y0
    go_wp2_with fail
    go_loopw [47] (fun x wr => ∃ j : Nat, j ≤ i ∧ x = .int .i64 j ∧ Bk wr w.heap.size 26 p.cs ∧ Below w.heap.size w wr) (fun x _ => i - (intOf x).toNat)
    case atStart => exact ⟨0, by omega, rfl, K3.out, B3.out⟩
    case round =>
      clear B3 K3 y0
      obtain ⟨j, hj, rfl, hk, hb⟩ := hrel
      by_cases hlt : j < i
      · obtain ⟨z0, z1⟩ := pg_cell hk j (by omega)
        have hne' := B0.out j hlt
        have B4 := Lib.hid (fun o => hb.alloc hb.size o); have K4 := Lib.hid (fun o => hk.alloc o)
        clear hb hk
        go_wp2
        go_roundw
        case rel => exact ⟨j + 1, by omega, by go_num, K4.out _, B4.out _⟩
        case measure => simp [intOf]; omega
      · have HB := Lib.hid hb
        clear hb hk
        go_wp2
        go_ret
        exact ⟨rfl, HB.out⟩
  · obtain ⟨y0, y1, y2, y3, y4, y5, y6, y7, y8, y9, y10, y11⟩ := pg_cells K3.out
    have HQ := Lib.hid hq
    clear hq
    go_wp2_with fail
    clear y0 y1 y2 y3 y4 y5 y6 y7 y8 y9 y10 y11
    go_loopw [20] (fun i wr => ∃ j : Nat, j ≤ 6 ∧ i = .int .i64 j ∧ Below w.heap.size w wr) (fun i _ => 6 - (intOf i).toNat)
    case atStart => exact ⟨0, by omega, rfl, B3.out⟩
    case round =>
      clear B3
      obtain ⟨j, hj, rfl, hb⟩ := hrel
      by_cases hlt : j < 6
      · have ix := fun w => idx6 p.c j hlt w
        have hne := HQ.out j hlt
        have hne' : ((p.c j).st == 0) = false := by simp [hne]
        have B4 := Lib.hid (fun o => hb.alloc hb.size o)
        clear hb
        go_wp2
        go_roundw
        case rel => exact ⟨j + 1, by omega, by go_num, B4.out _⟩
        case measure => simp [intOf]; omega
      · have HB := Lib.hid hb
        clear hb
        go_wp2
        go_ret
        exact ⟨rfl, HB.out⟩
end Go.Proofs.Ytmjgakbaalbmfaa
