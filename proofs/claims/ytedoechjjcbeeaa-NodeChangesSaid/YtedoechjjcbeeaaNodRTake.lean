/- The walk of the document's own Take. -/
import Derived.Test.YtedoechjjcbeeaaNodTake
import Derived.Test.YtedoechjjcbeeaaNodHeld
set_option linter.unusedVariables false
set_option linter.unusedSimpArgs false
namespace Go.Proofs.Ytedoechjjcbeeaa
open Go.RowKit

/-- The cells of a page with one less, an empty one at the end. -/
def delC (c : Nat → Ce) (i l : Nat) : Nat → Ce := joinC (joinC (joinC c 0 c) i (fun q => c (i + 1 + q))) l (fun _ => czero)
theorem del_eq (p : Pg) (i l : Nat) (hi : i ≤ l) (hl : l ≤ 5) : (p.fill (delC p.c i l) (l + 1)).cs = (p.del i (l + 1)).cs := by
  refine Pg.cs_eq ⟨rfl, rfl, rfl, rfl, fun q hq => ?_⟩
  simp only [Pg.fill, Pg.del, Pg.set, Pg.blit, delC, joinC]
  repeat' split
  all_goals first | rfl | (exfalso; omega) | (congr 1; omega)
set_option maxRecDepth 100000 in
set_option maxHeartbeats 400000 in
theorem rtake_bad (p : Pg) (i : Int) (w : World) (h : ¬ takeOk p i) :
    Calls Try.prog 29 #[p.v, .int .i64 i] w fun e w' => e = .returned (.tuple #[Pg.zero.v, .int .i64 1]) ∧ Below w.heap.size w w' := by
  have CC := Lib.hid (fun w => cells_any p w)
  unfold takeOk at h
  generalize cnt p.c = n at *
  unfold Pg.v
  go_enter Try.func29, Try.ntmps29
  have k0 : Bk ((w.alloc (.cells p.cs 40)).alloc (.cells Pg.zero.cs 40)) w.heap.size 40 p.cs := (Bk.new w _ _).alloc _
  have z0 : Bk ((w.alloc (.cells p.cs 40)).alloc (.cells Pg.zero.cs 40)) (w.heap.size + 1) 40 Pg.zero.cs := Bk.new2 w _ _ _
  have b0 : Below w.heap.size w ((w.alloc (.cells p.cs 40)).alloc (.cells Pg.zero.cs 40)) := ((Below.refl _ _).alloc (Nat.le_refl _) _).alloc (by simp) _
  have K0 := Lib.hid k0; have Z0 := Lib.hid z0; have B0 := Lib.hid b0
  clear k0 z0 b0
  go_wp2_with (refine load_page rfl _ rfl w.heap.size p rfl K0.out ?_)
  refine (CC.out _).mono ?_
  rintro e w2 ⟨la, lcap, rfl, hr4, hb2⟩
  have Z2 := Lib.hid (Z0.out.kept hb2)
  have B2 := Lib.hid (below_then B0.out hb2 B0.out.size)
  clear hb2 K0 Z0 B0 CC hr4
  by_cases h1 : i < 0
  · clear h
    go_wp2_with (refine store_page rfl _ _ rfl (w.heap.size + 1) Pg.zero Pg.zero rfl rfl Z2.out ?_)
    refine bodyPost_ret (page_res rfl _ _ (w.heap.size + 1) Pg.zero.cs (row_bk Z2.out) rfl rfl) rfl ?_
    exact ⟨rfl, below_setRow B2.out (by omega) _⟩
  · have h2 : (n : Int) ≤ i := by
      by_cases h2 : (n : Int) ≤ i
      · exact h2
      · exact absurd ⟨by omega, by omega⟩ h
    clear h
    go_wp2_with (refine store_page rfl _ _ rfl (w.heap.size + 1) Pg.zero Pg.zero rfl rfl Z2.out ?_)
    refine bodyPost_ret (page_res rfl _ _ (w.heap.size + 1) Pg.zero.cs (row_bk Z2.out) rfl rfl) rfl ?_
    exact ⟨rfl, below_setRow B2.out (by omega) _⟩
set_option maxRecDepth 100000 in
set_option maxHeartbeats 1000000 in
theorem rtake_good (p : Pg) (i : Nat) (w : World) (h : i < cnt p.c) :
    Calls Try.prog 29 #[p.v, .int .i64 i] w fun e w' => e = .returned (.tuple #[(p.del i (cnt p.c)).v, .int .i64 0]) ∧ Below w.heap.size w w' := by
  have CC := Lib.hid (fun w => cells_any p w)
  have hn := cnt_le p.c
  generalize cnt p.c = n at *
  obtain ⟨l, hl⟩ : ∃ l, n = l + 1 := ⟨n - 1, by omega⟩
  have HE := Lib.hid (del_eq p i l (by omega) (by omega))
  rw [← hl] at HE
  have CO := Lib.hid (fun a cap B w (h : CRow w B a n cap (delC p.c i l)) => over_any p B a n cap (delC p.c i l) w (by omega) h)
  generalize hF : p.fill (delC p.c i l) n = F at *
  clear hF
  have hR : (p.del i n).v = .agg F.cs := by unfold Pg.v; rw [HE.out]
  rw [hR]
  clear hR HE
  unfold Pg.v at *
  unfold delC at CO
  have HL := Lib.hid hl
  have i1 : ¬ ((i : Int) < 0) := by omega
  have i2 : ¬ (n ≤ i) := by omega
  have i3 : ¬ ((n : Int) ≤ (i : Int)) := by omega
  clear hl
  go_enter Try.func29, Try.ntmps29
  have k0 : Bk ((w.alloc (.cells p.cs 40)).alloc (.cells Pg.zero.cs 40)) w.heap.size 40 p.cs := (Bk.new w _ _).alloc _
  have z0 : Bk ((w.alloc (.cells p.cs 40)).alloc (.cells Pg.zero.cs 40)) (w.heap.size + 1) 40 Pg.zero.cs := Bk.new2 w _ _ _
  have b0 : Below w.heap.size w ((w.alloc (.cells p.cs 40)).alloc (.cells Pg.zero.cs 40)) := ((Below.refl _ _).alloc (Nat.le_refl _) _).alloc (by simp) _
  have K0 := Lib.hid k0; have Z0 := Lib.hid z0; have B0 := Lib.hid b0
  clear k0 z0 b0
  go_wp2_with (refine load_page rfl _ rfl w.heap.size p rfl K0.out ?_)
  refine (CC.out _).mono ?_
  rintro e w4 ⟨la, lcap, rfl, hr4, hb2⟩
  have K4 := Lib.hid (K0.out.kept hb2)
  have Z4 := Lib.hid (Z0.out.kept hb2)
  have B4 := Lib.hid (below_then B0.out hb2 B0.out.size)
  have HB4 := Lib.hid (hr4.low (B' := w.heap.size) (by simp; omega))
  have LB := Lib.hid (fun k (hk : (Value.slice la n lcap).ownBlock = some k) => (hr4.blk hk).2)
  clear K0 Z0 B0 CC hb2
  have a2 : IntKind.i64.wrap ((i : Int) + 1) = (i : Int) + 1 := by simp [IntKind.wrap, IntKind.signed, IntKind.bits]; omega
  obtain ⟨p1, q1, s1, hp1⟩ := cr_pre hr4 i (by omega)
  obtain ⟨p2, q2, s2, hp2⟩ := cr_suf hr4 (i + 1) ((i : Int) + 1) (by omega) (by omega)
  have HP1 := Lib.hid hp1; have HP2 := Lib.hid hp2
  have A1 := Lib.hid (show 0 < i → ∃ g off, p1 = some ⟨g, off, none⟩ ∧ ∀ q, q < i → w4.cell? ⟨g, off + q * 2, none⟩ = some (.int .i64 (p.c q).st) ∧ w4.cell? ⟨g, off + q * 2 + 1, none⟩ = some (.string (p.c q).d) from fun h => by
    obtain ⟨g, e1, e2⟩ := HP1.out h
    refine ⟨g, 0, e1, fun q hq => ?_⟩
    have hb := HB4.out
    rw [e2] at hb
    have := hb.cell (j := q) (by omega)
    simpa using this)
  clear hp1 hp2 hr4
  have tokA : True := trivial
  go_wp2_with (first
    | (have _t := tokA
       refine wpList_append_cells rfl (.const (.slice none 0 0)) (.tmp 21) rfl w4.heap.size none 0 0 p.c p.c p1 i q1 rfl rfl (CRow.nil _ _ _) (Nat.le_refl _) (by omega) A1.out ?_
       clear _t tokA
       intro a5 cap5 w5 r5 g5 n5
       have K5 := Lib.hid (K4.out.grown g5 (by simp [Value.ownBlock])); have Z5 := Lib.hid (Z4.out.grown g5 (by simp [Value.ownBlock]))
       have L5 := Lib.hid (HB4.out.grown_far (B2 := 0) g5 (by simp [Value.ownBlock]))
       have B5 := Lib.hid (below_grow B4.out g5 (by simp [Value.ownBlock]) B4.out.size)
       have Z45 := Lib.hid (show w4.heap.size ≤ w5.heap.size from g5.size)
       rw [Nat.zero_add] at r5
       have R5a := Lib.hid r5
       have A3 := Lib.hid (show 0 < n - (i + 1) → ∃ g off, p2 = some ⟨g, off, none⟩ ∧ ∀ q, q < n - (i + 1) → w5.cell? ⟨g, off + q * 2, none⟩ = some (.int .i64 ((fun q => p.c (i + 1 + q)) q : Ce).st) ∧ w5.cell? ⟨g, off + q * 2 + 1, none⟩ = some (.string ((fun q => p.c (i + 1 + q)) q : Ce).d) from fun h => by
         obtain ⟨g, e1, e2⟩ := HP2.out h
         refine ⟨g, (i + 1) * 2, e1, fun q hq => ?_⟩
         have hb := L5.out
         rw [e2] at hb
         have := hb.cell (j := i + 1 + q) (by omega)
         rw [show (i + 1 + q) * 2 = (i + 1) * 2 + q * 2 by omega] at this
         exact this)
       clear r5 g5 n5
       have tokB : True := trivial)
    | (have _t := tokB
       refine wpList_append_cells rfl (.tmp 23) (.tmp 27) rfl w4.heap.size a5 i cap5 (joinC p.c 0 p.c) (fun q => p.c (i + 1 + q)) p2 (n - (i + 1)) q2 rfl rfl R5a.out Z45.out (by omega) A3.out ?_
       clear _t tokB
       intro a6 cap6 w6 r6 g6 n6
       have hob : ∀ k, (Value.slice a5 i cap5).ownBlock = some k → w4.heap.size ≤ k := fun k hk => (R5a.out.blk hk).1
       have K6 := Lib.hid (K5.out.grown g6 (fun e => by have := hob _ e.symm; have := K4.out.lt; omega))
       have Z6 := Lib.hid (Z5.out.grown g6 (fun e => by have := hob _ e.symm; have := Z4.out.lt; omega))
       have B6 := Lib.hid (below_grow B5.out g6 (fun k hk => by have := hob _ hk; have := B4.out.size; omega) B5.out.size)
       have Z46 := Lib.hid (show w4.heap.size ≤ w6.heap.size by have h1 := Z45.out; have h2 := g6.size; omega)
       have R6 := Lib.hid r6
       clear r6 g6 n6 hob R5a K5 Z5 L5 B5))
  have hz46 := Z46.out
  have hlk := K4.out.lt; have hlz := Z4.out.lt
  have r6 := R6.out
  have hm : i + (n - (i + 1)) = l := by have := HL.out; omega
  rw [hm] at r6
  simp only [hm]
  have R6' := Lib.hid r6
  clear r6
  refine wp_region_held (S := fun w' => Bk w' w.heap.size 40 p.cs) (by kernel_rfl) ?_
  refine held_take (fuel := 7) (i := 0) 29 rfl rfl (by kernel_rfl) (by kernel_rfl) (by kernel_rfl) (fun _ _ _ h => h) (held_page _ rfl (by kernel_rfl) w.heap.size p rfl (fun w h => h)) K6.out.drew ?_
  refine held_take (fuel := 6) (i := 1) 30 rfl rfl (by kernel_rfl) (by kernel_rfl) (by kernel_rfl) (fun _ _ _ h => h) (held_move _ rfl (by kernel_rfl)) K6.out.drew ?_
  refine held_take (fuel := 5) (i := 2) 31 rfl rfl (by kernel_rfl) (by kernel_rfl) (by kernel_rfl) (fun _ _ _ h => h) (build_zero rfl (by kernel_rfl)) K6.out.drew ?_
  simp only [Act.put, Act.eval, List.setIfInBounds_toArray, List.set_cons_succ, List.set_cons_zero]
  refine held_ready (fuel := 4) 3 (by kernel_rfl) ?_
  refine held_slice1 rfl (by kernel_rfl) 32 rfl (.tmp 31) rfl (.int .i64 0) (.string ⟨#[]⟩) rfl ⟨K6.out.drew.alloc _, ?_⟩
  simp only [Act.put, Act.eval, List.setIfInBounds_toArray, List.set_cons_succ, List.set_cons_zero]
  refine held_ready (fuel := 3) 4 (by kernel_rfl) ?_
  refine held_append rfl (by kernel_rfl) 33 rfl (.tmp 30) (.tmp 32) rfl w4.heap.size a6 l cap6 (joinC (joinC p.c 0 p.c) i (fun q => p.c (i + 1 + q))) (fun _ => czero) (some ⟨w6.heap.size, 0, none⟩) 1 1 rfl rfl (R6'.out.drew.alloc _) (by simp; omega) (by omega) (new_cell w6.drew czero) ?_
  intro a7 cap7 w7 r7 g7
  have hob : ∀ k, (Value.slice a6 l cap6).ownBlock = some k → w4.heap.size ≤ k := fun k hk => (R6'.out.blk hk).1
  have K7 := Lib.hid ((K6.out.drew.alloc (.cells #[.int .i64 0, .string ⟨#[]⟩] 23)).grown g7 (fun e => by have := hob _ e.symm; omega))
  have Z7 := Lib.hid ((Z6.out.drew.alloc (.cells #[.int .i64 0, .string ⟨#[]⟩] 23)).grown g7 (fun e => by have := hob _ e.symm; omega))
  have B7 := Lib.hid (below_grow (B6.out.drew.alloc B6.out.size (.cells #[.int .i64 0, .string ⟨#[]⟩] 23)) g7 (fun k hk => by have := hob _ hk; have := B4.out.size; omega) (by have := B6.out.size; simp; omega))
  rw [← HL.out] at r7 ⊢
  refine ⟨K7.out, ?_⟩
  simp only [Act.put, Act.eval, List.setIfInBounds_toArray, List.set_cons_succ, List.set_cons_zero]
  refine held_ready (fuel := 2) 5 (by kernel_rfl) ?_
  refine held_call rfl (by kernel_rfl) 34 rfl 48 #[.agg p.cs, .slice a7 n cap7] (by kernel_rfl) ?_
  refine (CO.out _ _ _ _ r7).mono ?_
  rintro e w8 ⟨rfl, hb8⟩
  have Z8 := Lib.hid (Z7.out.kept hb8)
  have B8 := Lib.hid (below_then B7.out hb8 B7.out.size)
  refine ⟨_, rfl, K7.out.kept hb8, ?_⟩
  simp only [Act.put, Act.eval, List.setIfInBounds_toArray, List.set_cons_succ, List.set_cons_zero]
  refine held_ready (fuel := 1) 6 (by kernel_rfl) ?_
  refine held_store rfl (.tmp 4) (.tmp 34) rfl rfl (by kernel_rfl) (w.heap.size + 1) F Pg.zero rfl rfl Z8.out ⟨row_far (K7.out.kept hb8) (by omega), ?_⟩
  refine held_take (fuel := 0) (i := 7) 5 rfl rfl (by kernel_rfl) (by kernel_rfl) (by kernel_rfl) (fun _ _ _ h => h) (held_assign _ rfl (by kernel_rfl)) (row_far (K7.out.kept hb8) (by omega)) ?_
  refine wpAnyH_done (by kernel_rfl) ?_ _
  simp only [Act.put, Act.eval, List.setIfInBounds_toArray, List.set_cons_succ, List.set_cons_zero]
  generalize hW : World.setRow _ (w.heap.size + 1) F.cs = wF
  have fY : Bk wF (w.heap.size + 1) 40 F.cs := by rw [← hW]; exact row_bk Z8.out
  have fB : Below w.heap.size w wF := by rw [← hW]; exact below_setRow B8.out (by omega) _
  have FY := Lib.hid fY; have FB := Lib.hid fB
  clear fY fB hW
  go_wp2
  refine bodyPost_ret (page_res rfl _ _ (w.heap.size + 1) F.cs FY.out rfl rfl) rfl ?_
  exact ⟨rfl, FB.out⟩
theorem rtake_any (p : Pg) (i : Int) (w : World) :
    Calls Try.prog 29 #[p.v, .int .i64 i] w fun e w' => e = .returned (.tuple #[(takeP p i).v, .int .i64 (takeE p i)]) ∧ Below w.heap.size w w' := by
  by_cases h : takeOk p i
  · unfold takeP takeE
    rw [if_pos h, if_pos h]
    obtain ⟨k, rfl⟩ := Int.eq_ofNat_of_zero_le h.1
    exact rtake_good p k w (by have := h.2; omega)
  · unfold takeP takeE
    rw [if_neg h, if_neg h]
    exact rtake_bad p i w h
end Go.Proofs.Ytedoechjjcbeeaa
