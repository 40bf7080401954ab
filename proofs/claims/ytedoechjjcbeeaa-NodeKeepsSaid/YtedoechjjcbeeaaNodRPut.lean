/- The walk of the document's own Put. -/
import Derived.Test.YtedoechjjcbeeaaNodPut
import Derived.Test.YtedoechjjcbeeaaNodApp
set_option linter.unusedVariables false
set_option linter.unusedSimpArgs false
namespace Go.Proofs.Ytedoechjjcbeeaa
open Go.RowKit

/-- The cells of a page with one more. -/
def insC (c : Nat → Ce) (i : Nat) (x : Ce) : Nat → Ce := joinC (joinC (joinC c 0 c) i (fun _ => x)) (i + 1) (fun q => c (i + q))
theorem new_cell (w : World) (c : Ce) : 0 < 1 → ∃ g off, some (⟨w.heap.size, 0, none⟩ : Addr) = some ⟨g, off, none⟩ ∧ ∀ q, q < 1 → (w.alloc (.cells #[.int .i64 c.st, .string c.d] 23)).cell? ⟨g, off + q * 2, none⟩ = some (.int .i64 ((fun _ => c) q : Ce).st) ∧ (w.alloc (.cells #[.int .i64 c.st, .string c.d] 23)).cell? ⟨g, off + q * 2 + 1, none⟩ = some (.string ((fun _ => c) q : Ce).d) := fun _ => ⟨w.heap.size, 0, rfl, fun q hq => by
  obtain rfl : q = 0 := by omega
  have hk := Bk.new w 23 #[.int .i64 c.st, .string c.d]
  exact ⟨hk.cell 0, hk.cell 1⟩⟩
theorem ins_eq (p : Pg) (i n : Nat) (x : Ce) (hi : i ≤ n) (hn : n ≤ 5) (m : Nat) (hm : m = i + 1 + (n - i)) : (p.fill (insC p.c i x) m).cs = (p.ins i n x).cs := by
  refine Pg.cs_eq ⟨rfl, rfl, rfl, rfl, fun q hq => ?_⟩
  simp only [Pg.fill, Pg.ins, Pg.set, Pg.blit, insC, joinC]
  repeat' split
  all_goals first | rfl | (exfalso; omega) | (congr 1; omega)
set_option maxRecDepth 100000 in
set_option maxHeartbeats 400000 in
theorem rput_none (p : Pg) (c : Ce) (w : World) (hc : c.d.size ≤ maxLen) (h1 : ¬ c.says) :
    Calls Try.prog 27 #[p.v, c.v] w fun e w' => e = .returned (.tuple #[Pg.zero.v, .int .i64 1]) ∧ Below w.heap.size w w' := by
  have CK := Lib.hid (fun w => says_any c w hc)
  rw [decide_eq_false h1] at CK
  clear h1 hc
  unfold Ce.v at *
  generalize c.key = ky at *
  generalize c.rst = rs at *
  unfold Pg.v
  go_enter Try.func27, Try.ntmps27
  go_wp2_with fail
  have k0 : Bk (((w.alloc (.cells p.cs 40)).alloc (.cells #[.int .i64 c.st, .string c.d] 23)).alloc (.cells Pg.zero.cs 40)) w.heap.size 40 p.cs := ((Bk.new w _ _).alloc _).alloc _
  have z0 : Bk (((w.alloc (.cells p.cs 40)).alloc (.cells #[.int .i64 c.st, .string c.d] 23)).alloc (.cells Pg.zero.cs 40)) (w.heap.size + 1 + 1) 40 Pg.zero.cs := Bk.new3 w _ _ _ _
  have b0 : Below w.heap.size w (((w.alloc (.cells p.cs 40)).alloc (.cells #[.int .i64 c.st, .string c.d] 23)).alloc (.cells Pg.zero.cs 40)) := (((Below.refl _ _).alloc (Nat.le_refl _) _).alloc (by simp) _).alloc (by simp; omega) _
  have K0 := Lib.hid k0; have Z0 := Lib.hid z0; have B0 := Lib.hid b0
  clear k0 z0 b0
  refine (CK.out _).mono ?_
  rintro e w2 ⟨rfl, hb2⟩
  have K2 := Lib.hid (K0.out.kept hb2); have Z2 := Lib.hid (Z0.out.kept hb2)
  have B2 := Lib.hid (below_then B0.out hb2 B0.out.size)
  clear hb2 K0 Z0 B0 CK
  go_wp2_with (refine store_page rfl _ _ rfl (w.heap.size + 1 + 1) Pg.zero Pg.zero rfl rfl Z2.out ?_)
  refine bodyPost_ret (page_res rfl _ _ (w.heap.size + 1 + 1) Pg.zero.cs (row_bk Z2.out) rfl rfl) rfl ?_
  exact ⟨rfl, below_setRow B2.out (by omega) _⟩
set_option maxRecDepth 100000 in
set_option maxHeartbeats 400000 in
theorem rput_there (p : Pg) (c : Ce) (w : World) (hs : Sz p.c) (hc : c.d.size ≤ maxLen) (h1 : c.says) (h2 : fThere p c.key = true) :
    Calls Try.prog 27 #[p.v, c.v] w fun e w' => e = .returned (.tuple #[Pg.zero.v, .int .i64 160]) ∧ Below w.heap.size w w' := by
  have CK := Lib.hid (fun w => says_any c w hc)
  have CF := Lib.hid (fun w => rfind_any p c.key w hs)
  rw [decide_eq_true h1] at CK
  unfold IsFnd at CF
  rw [h2] at CF
  generalize fAt p c.key = i at *
  clear h1 h2 hs hc
  unfold Ce.v at *
  generalize c.key = ky at *
  generalize c.rst = rs at *
  unfold Pg.v
  go_enter Try.func27, Try.ntmps27
  go_wp2_with fail
  have k0 : Bk (((w.alloc (.cells p.cs 40)).alloc (.cells #[.int .i64 c.st, .string c.d] 23)).alloc (.cells Pg.zero.cs 40)) w.heap.size 40 p.cs := ((Bk.new w _ _).alloc _).alloc _
  have z0 : Bk (((w.alloc (.cells p.cs 40)).alloc (.cells #[.int .i64 c.st, .string c.d] 23)).alloc (.cells Pg.zero.cs 40)) (w.heap.size + 1 + 1) 40 Pg.zero.cs := Bk.new3 w _ _ _ _
  have b0 : Below w.heap.size w (((w.alloc (.cells p.cs 40)).alloc (.cells #[.int .i64 c.st, .string c.d] 23)).alloc (.cells Pg.zero.cs 40)) := (((Below.refl _ _).alloc (Nat.le_refl _) _).alloc (by simp) _).alloc (by simp; omega) _
  have K0 := Lib.hid k0; have Z0 := Lib.hid z0; have B0 := Lib.hid b0
  clear k0 z0 b0
  refine (CK.out _).mono ?_
  rintro e w2 ⟨rfl, hb2⟩
  have K2 := Lib.hid (K0.out.kept hb2); have Z2 := Lib.hid (Z0.out.kept hb2)
  have B2 := Lib.hid (below_then B0.out hb2 B0.out.size)
  clear hb2 K0 Z0 B0 CK
  go_wp2_with (refine load_page rfl _ rfl w.heap.size p rfl K2.out ?_)
  refine (CF.out _).mono ?_
  rintro e w3 ⟨j, b, rfl, ⟨rfl, rfl⟩, hb3⟩
  have Z3 := Lib.hid (Z2.out.kept hb3)
  have B3 := Lib.hid (below_then B2.out hb3 B2.out.size)
  clear hb3 K2 Z2 B2 CF
  go_wp2_with (refine store_page rfl _ _ rfl (w.heap.size + 1 + 1) Pg.zero Pg.zero rfl rfl Z3.out ?_)
  refine bodyPost_ret (page_res rfl _ _ (w.heap.size + 1 + 1) Pg.zero.cs (row_bk Z3.out) rfl rfl) rfl ?_
  exact ⟨rfl, below_setRow B3.out (by omega) _⟩
set_option maxRecDepth 100000 in
set_option maxHeartbeats 400000 in
theorem rput_full (p : Pg) (c : Ce) (w : World) (hs : Sz p.c) (hc : c.d.size ≤ maxLen) (h1 : c.says) (h2 : fThere p c.key = false) (h3 : cnt p.c = 6) :
    Calls Try.prog 27 #[p.v, c.v] w fun e w' => e = .returned (.tuple #[Pg.zero.v, .int .i64 140]) ∧ Below w.heap.size w w' := by
  have CK := Lib.hid (fun w => says_any c w hc)
  have CF := Lib.hid (fun w => rfind_any p c.key w hs)
  have CC := Lib.hid (fun w => cells_any p w)
  rw [decide_eq_true h1] at CK
  unfold IsFnd at CF
  rw [h2] at CF
  generalize fAt p c.key = i at *
  have hn6 : cnt p.c = 6 := h3
  generalize cnt p.c = n at *
  subst hn6
  clear h1 h2 h3 hs hc
  unfold Ce.v at *
  generalize c.key = ky at *
  generalize c.rst = rs at *
  unfold Pg.v
  go_enter Try.func27, Try.ntmps27
  go_wp2_with fail
  have k0 : Bk (((w.alloc (.cells p.cs 40)).alloc (.cells #[.int .i64 c.st, .string c.d] 23)).alloc (.cells Pg.zero.cs 40)) w.heap.size 40 p.cs := ((Bk.new w _ _).alloc _).alloc _
  have z0 : Bk (((w.alloc (.cells p.cs 40)).alloc (.cells #[.int .i64 c.st, .string c.d] 23)).alloc (.cells Pg.zero.cs 40)) (w.heap.size + 1 + 1) 40 Pg.zero.cs := Bk.new3 w _ _ _ _
  have b0 : Below w.heap.size w (((w.alloc (.cells p.cs 40)).alloc (.cells #[.int .i64 c.st, .string c.d] 23)).alloc (.cells Pg.zero.cs 40)) := (((Below.refl _ _).alloc (Nat.le_refl _) _).alloc (by simp) _).alloc (by simp; omega) _
  have K0 := Lib.hid k0; have Z0 := Lib.hid z0; have B0 := Lib.hid b0
  clear k0 z0 b0
  refine (CK.out _).mono ?_
  rintro e w2 ⟨rfl, hb2⟩
  have K2 := Lib.hid (K0.out.kept hb2); have Z2 := Lib.hid (Z0.out.kept hb2)
  have B2 := Lib.hid (below_then B0.out hb2 B0.out.size)
  clear hb2 K0 Z0 B0 CK
  go_wp2_with (refine load_page rfl _ rfl w.heap.size p rfl K2.out ?_)
  refine (CF.out _).mono ?_
  rintro e w3 ⟨j, b, rfl, ⟨rfl, rfl⟩, hb3⟩
  have K3 := Lib.hid (K2.out.kept hb3); have Z3 := Lib.hid (Z2.out.kept hb3)
  have B3 := Lib.hid (below_then B2.out hb3 B2.out.size)
  clear hb3 K2 Z2 B2 CF
  go_wp2_with (refine load_page rfl _ rfl w.heap.size p rfl K3.out ?_)
  refine (CC.out _).mono ?_
  rintro e w4 ⟨la, lcap, rfl, hr4, hb4⟩
  have Z4 := Lib.hid (Z3.out.kept hb4)
  have B4 := Lib.hid (below_then B3.out hb4 B3.out.size)
  clear hb4 K3 Z3 B3 CC hr4
  go_wp2_with (refine store_page rfl _ _ rfl (w.heap.size + 1 + 1) Pg.zero Pg.zero rfl rfl Z4.out ?_)
  refine bodyPost_ret (page_res rfl _ _ (w.heap.size + 1 + 1) Pg.zero.cs (row_bk Z4.out) rfl rfl) rfl ?_
  exact ⟨rfl, below_setRow B4.out (by omega) _⟩
set_option maxRecDepth 100000 in
set_option maxHeartbeats 1000000 in
theorem rput_good (p : Pg) (c : Ce) (w : World) (hs : Sz p.c) (hc : c.d.size ≤ maxLen) (h1 : c.says) (h2 : fThere p c.key = false) (h3 : cnt p.c ≠ 6) :
    Calls Try.prog 27 #[p.v, c.v] w fun e w' => e = .returned (.tuple #[(p.ins (fAt p c.key) (cnt p.c) c).v, .int .i64 0]) ∧ Below w.heap.size w w' := by
  have CK := Lib.hid (fun w => says_any c w hc)
  have CF := Lib.hid (fun w => rfind_any p c.key w hs)
  have CC := Lib.hid (fun w => cells_any p w)
  rw [decide_eq_true h1] at CK
  unfold IsFnd at CF
  rw [h2] at CF
  have hi := fAt_le p c.key
  have hn := cnt_le p.c
  have HE := Lib.hid (ins_eq p (fAt p c.key) (cnt p.c) c hi (by omega) _ rfl)
  generalize fAt p c.key = i at *
  generalize cnt p.c = n at *
  have hn5 : n ≤ 5 := by omega
  have hn6 : ((n : Int) == 6) = false := by simp; omega
  clear h1 h2 h3 hs hc
  have CO := Lib.hid (fun a cap B w (h : CRow w B a (i + 1 + (n - i)) cap (insC p.c i c)) => over_any p B a (i + 1 + (n - i)) cap (insC p.c i c) w (by omega) h)
  generalize hF : p.fill (insC p.c i c) (i + 1 + (n - i)) = F at *
  clear hF
  have hR : (p.ins i n c).v = .agg F.cs := by unfold Pg.v; rw [HE.out]
  rw [hR]
  clear hR HE
  unfold Pg.v at *
  unfold insC at CO
  unfold Ce.v at *
  generalize c.key = ky at *
  generalize c.rst = rs at *
  go_enter Try.func27, Try.ntmps27
  go_wp2_with fail
  have k0 : Bk (((w.alloc (.cells p.cs 40)).alloc (.cells #[.int .i64 c.st, .string c.d] 23)).alloc (.cells Pg.zero.cs 40)) w.heap.size 40 p.cs := ((Bk.new w _ _).alloc _).alloc _
  have c0 : Bk (((w.alloc (.cells p.cs 40)).alloc (.cells #[.int .i64 c.st, .string c.d] 23)).alloc (.cells Pg.zero.cs 40)) (w.heap.size + 1) 23 #[.int .i64 c.st, .string c.d] := (Bk.new2 w _ _ _).alloc _
  have z0 : Bk (((w.alloc (.cells p.cs 40)).alloc (.cells #[.int .i64 c.st, .string c.d] 23)).alloc (.cells Pg.zero.cs 40)) (w.heap.size + 1 + 1) 40 Pg.zero.cs := Bk.new3 w _ _ _ _
  have b0 : Below w.heap.size w (((w.alloc (.cells p.cs 40)).alloc (.cells #[.int .i64 c.st, .string c.d] 23)).alloc (.cells Pg.zero.cs 40)) := (((Below.refl _ _).alloc (Nat.le_refl _) _).alloc (by simp) _).alloc (by simp; omega) _
  have K0 := Lib.hid k0; have C0 := Lib.hid c0; have Z0 := Lib.hid z0; have B0 := Lib.hid b0
  clear k0 c0 z0 b0
  refine (CK.out _).mono ?_
  rintro e w2 ⟨rfl, hb2⟩
  have K2 := Lib.hid (K0.out.kept hb2); have C2 := Lib.hid (C0.out.kept hb2); have Z2 := Lib.hid (Z0.out.kept hb2)
  have B2 := Lib.hid (below_then B0.out hb2 B0.out.size)
  clear hb2 K0 C0 Z0 B0 CK
  go_wp2_with (refine load_page rfl _ rfl w.heap.size p rfl K2.out ?_)
  refine (CF.out _).mono ?_
  rintro e w3 ⟨j, b, rfl, ⟨rfl, rfl⟩, hb3⟩
  have K3 := Lib.hid (K2.out.kept hb3); have C3 := Lib.hid (C2.out.kept hb3); have Z3 := Lib.hid (Z2.out.kept hb3)
  have B3 := Lib.hid (below_then B2.out hb3 B2.out.size)
  clear hb3 K2 C2 Z2 B2 CF
  go_wp2_with (refine load_page rfl _ rfl w.heap.size p rfl K3.out ?_)
  refine (CC.out _).mono ?_
  rintro e w4 ⟨la, lcap, rfl, hr4, hb4⟩
  have K4 := Lib.hid (K3.out.kept hb4); have C4 := Lib.hid (C3.out.kept hb4); have Z4 := Lib.hid (Z3.out.kept hb4)
  have B4 := Lib.hid (below_then B3.out hb4 B3.out.size)
  have hj5 : j < 6 := by omega
  have HB4 := Lib.hid (hr4.low (B' := w.heap.size) (by have := B3.out.size; omega))
  have LB := Lib.hid (fun k (hk : (Value.slice la n lcap).ownBlock = some k) => (hr4.blk hk).2)
  obtain ⟨p1, q1, s1, hp1⟩ := cr_pre hr4 j hi
  obtain ⟨p2, q2, s2, hp2⟩ := cr_suf hr4 j (j : Int) rfl hi
  have HP1 := Lib.hid hp1; have HP2 := Lib.hid hp2
  have C4c := C4.out
  have A1 := Lib.hid (show 0 < j → ∃ g off, p1 = some ⟨g, off, none⟩ ∧ ∀ q, q < j → w4.cell? ⟨g, off + q * 2, none⟩ = some (.int .i64 (p.c q).st) ∧ w4.cell? ⟨g, off + q * 2 + 1, none⟩ = some (.string (p.c q).d) from fun h => by
    obtain ⟨g, e1, e2⟩ := HP1.out h
    refine ⟨g, 0, e1, fun q hq => ?_⟩
    have hb := HB4.out
    rw [e2] at hb
    have := hb.cell (j := q) (by omega)
    simpa using this)
  clear hp1 hp2 hr4 C4c
  have tokA : True := trivial
  go_wp2_with (first
    | (have _t := tokA
       refine wpList_append_cells rfl (.const (.slice none 0 0)) (.tmp 38) rfl w4.heap.size none 0 0 p.c p.c p1 j q1 rfl rfl (CRow.nil _ _ _) (Nat.le_refl _) (by omega) A1.out ?_
       clear _t tokA
       intro a5 cap5 w5 r5 g5 n5
       have C5 := C4.out.grown g5 (by simp [Value.ownBlock])
       have x0 := C5.cell 0; have x1 := C5.cell 1
       simp only [List.getElem?_toArray, List.getElem?_cons_zero, List.getElem?_cons_succ] at x0 x1
       have K5 := Lib.hid (K4.out.grown g5 (by simp [Value.ownBlock])); have Z5 := Lib.hid (Z4.out.grown g5 (by simp [Value.ownBlock]))
       have L5 := Lib.hid (HB4.out.grown_far (B2 := 0) g5 (by simp [Value.ownBlock]))
       have B5 := Lib.hid (below_grow B4.out g5 (by simp [Value.ownBlock]) B4.out.size)
       have Z45 := Lib.hid (show w4.heap.size ≤ w5.heap.size from g5.size)
       rw [Nat.zero_add] at r5
       have R5a := Lib.hid (r5.alloc (.cells #[.int .i64 c.st, .string c.d] 23))
       have A2 := Lib.hid (new_cell w5 c)
       clear r5 g5 n5 C5
       have tokB : True := trivial)
    | (have _t := tokB
       refine wpList_append_cells rfl (.tmp 40) (.tmp 42) rfl w4.heap.size a5 j cap5 (joinC p.c 0 p.c) (fun _ => c) (some ⟨w5.heap.size, 0, none⟩) 1 1 rfl rfl R5a.out (by have := Z45.out; simp; omega) (by omega) A2.out ?_
       clear _t tokB
       intro a6 cap6 w6 r6 g6 n6
       have hob : ∀ k, (Value.slice a5 j cap5).ownBlock = some k → w4.heap.size ≤ k := fun k hk => (R5a.out.blk hk).1
       have K6 := Lib.hid ((K5.out.alloc (.cells #[.int .i64 c.st, .string c.d] 23)).grown g6 (fun e => by have := hob _ e.symm; have := K4.out.lt; omega))
       have Z6 := Lib.hid ((Z5.out.alloc (.cells #[.int .i64 c.st, .string c.d] 23)).grown g6 (fun e => by have := hob _ e.symm; have := Z4.out.lt; omega))
       have L6 := Lib.hid ((L5.out.alloc (.cells #[.int .i64 c.st, .string c.d] 23)).grown_far (B2 := 0) g6 (fun k hk e => by have := hob _ e; have := LB.out k hk; omega))
       have B6 := Lib.hid (below_grow (B5.out.alloc B5.out.size (.cells #[.int .i64 c.st, .string c.d] 23)) g6 (fun k hk => by have := hob _ hk; have := B4.out.size; omega) (by have := B5.out.size; simp; omega))
       have Z46 := Lib.hid (show w4.heap.size ≤ w6.heap.size by have h1 := Z45.out; have h2 := g6.size; simp at h2; omega)
       have A3 := Lib.hid (show 0 < n - j → ∃ g off, p2 = some ⟨g, off, none⟩ ∧ ∀ q, q < n - j → w6.cell? ⟨g, off + q * 2, none⟩ = some (.int .i64 ((fun q => p.c (j + q)) q : Ce).st) ∧ w6.cell? ⟨g, off + q * 2 + 1, none⟩ = some (.string ((fun q => p.c (j + q)) q : Ce).d) from fun h => by
         obtain ⟨g, e1, e2⟩ := HP2.out h
         refine ⟨g, j * 2, e1, fun q hq => ?_⟩
         have hb := L6.out
         rw [e2] at hb
         have := hb.cell (j := j + q) (by omega)
         rw [show (j + q) * 2 = j * 2 + q * 2 by omega] at this
         exact this)
       have R6 := Lib.hid r6
       clear r6 g6 n6 hob R5a K5 Z5 L5 B5
       have tokC : True := trivial)
    | (have _t := tokC
       refine wpList_append_cells rfl (.tmp 44) (.tmp 47) rfl w4.heap.size a6 (j + 1) cap6 (joinC (joinC p.c 0 p.c) j (fun _ => c)) (fun q => p.c (j + q)) p2 (n - j) q2 rfl rfl R6.out Z46.out (by omega) A3.out ?_
       clear _t tokC
       intro a7 cap7 w7 r7 g7 n7
       have hob : ∀ k, (Value.slice a6 (j + 1) cap6).ownBlock = some k → w4.heap.size ≤ k := fun k hk => (R6.out.blk hk).1
       have K7 := Lib.hid (K6.out.grown g7 (fun e => by have := hob _ e.symm; have := K4.out.lt; omega))
       have Z7 := Lib.hid (Z6.out.grown g7 (fun e => by have := hob _ e.symm; have := Z4.out.lt; omega))
       have B7 := Lib.hid (below_grow B6.out g7 (fun k hk => by have := hob _ hk; have := B4.out.size; omega) B6.out.size)
       have R7 := Lib.hid r7
       clear r7 g7 n7 hob R6 K6 Z6 L6 B6
       have tokD : True := trivial)
    | (have _t := tokD
       refine load_page rfl _ rfl w.heap.size p rfl K7.out ?_
       clear _t tokD))
  refine (CO.out _ _ _ _ R7.out).mono ?_
  rintro e w8 ⟨rfl, hb8⟩
  have Z8 := Lib.hid (Z7.out.kept hb8)
  have B8 := Lib.hid (below_then B7.out hb8 B7.out.size)
  go_wp2_with (refine store_page rfl _ _ rfl (w.heap.size + 1 + 1) F Pg.zero rfl rfl Z8.out ?_)
  refine bodyPost_ret (page_res rfl _ _ (w.heap.size + 1 + 1) F.cs (row_bk Z8.out) rfl rfl) rfl ?_
  exact ⟨rfl, below_setRow B8.out (by omega) _⟩
theorem rput_any (p : Pg) (c : Ce) (w : World) (hs : Sz p.c) (hc : c.d.size ≤ maxLen) :
    Calls Try.prog 27 #[p.v, c.v] w fun e w' => e = .returned (.tuple #[(putP p c).v, .int .i64 (putE p c)]) ∧ Below w.heap.size w w' := by
  by_cases h1 : c.says
  · by_cases h2 : fThere p c.key = true
    · have e : putE p c = 160 := by unfold putE; rw [if_neg (by simp [h1]), if_pos h2]
      unfold putP
      rw [e, if_neg (by decide)]
      exact rput_there p c w hs hc h1 h2
    · have h2' : fThere p c.key = false := by simpa using h2
      by_cases h3 : cnt p.c = 6
      · have e : putE p c = 140 := by unfold putE; rw [if_neg (by simp [h1]), if_neg h2, if_pos h3]
        unfold putP
        rw [e, if_neg (by decide)]
        exact rput_full p c w hs hc h1 h2' h3
      · have e : putE p c = 0 := by unfold putE; rw [if_neg (by simp [h1]), if_neg h2, if_neg h3]
        unfold putP
        rw [e, if_pos rfl]
        exact rput_good p c w hs hc h1 h2' h3
  · have e : putE p c = 1 := by unfold putE; rw [if_pos h1]
    unfold putP
    rw [e, if_neg (by decide)]
    exact rput_none p c w hc h1
end Go.Proofs.Ytedoechjjcbeeaa
