/- Pairs compared. -/
import Derived.Test.YtnpnpkaklamboaaDoorLkSort
import Derived.Shelf.SlSortCmp.NoneTotal
set_option linter.unusedVariables false
set_option linter.unusedSimpArgs false
namespace Go.Proofs.YtnpnpkaklamboaaDoor
open Go.RowKit Go.Shelf Go.Sort
set_option maxRecDepth 100000 in
set_option maxHeartbeats 2000000 in
theorem cmp_arc (x y : Int × Int) (W : World) : Calls Tryd.prog 26 #[.agg (pC x).toArray, .agg (pC y).toArray] W fun e w' => e = .returned (.int .i64 (cfP x y)) ∧ ∃ q os', w' = grow (W.drewN q) os' := by
  obtain ⟨x1, x2⟩ := x; obtain ⟨y1, y2⟩ := y
  have C1 := Lib.hid (fun w => cmpint_any x1 y1 w)
  have C2 := Lib.hid (fun w => cmpint_any x2 y2 w)
  obtain ⟨c1, h1⟩ : ∃ c, c = cmpI x1 y1 := ⟨_, rfl⟩
  obtain ⟨c2, h2⟩ : ∃ c, c = cmpI x2 y2 := ⟨_, rfl⟩
  have CO := Lib.hid (fun w b hb => or_any c1 c2 b w hb)
  rw [show cfP (x1, x2) (y1, y2) = orI c1 c2 by rw [h1, h2]; rfl]
  rw [← h1] at C1
  rw [← h2] at C2
  obtain ⟨o, ho⟩ : ∃ o, o = orI c1 c2 := ⟨_, rfl⟩
  rw [← ho] at CO ⊢
  clear h1 h2 ho
  have G := Lib.hid (show ∃ os, (W.alloc (.cells #[.int .i64 x1, .int .i64 x2] 41)).alloc (.cells #[.int .i64 y1, .int .i64 y2] 41) = grow (W.drewN 0) os from ⟨_, by rw [alloc_eq_grow, alloc_eq_grow, grow_grow]; rfl⟩)
  have k1 := Lib.hid (show Bk ((W.alloc (.cells #[.int .i64 x1, .int .i64 x2] 41)).alloc (.cells #[.int .i64 y1, .int .i64 y2] 41)) W.heap.size 41 #[.int .i64 x1, .int .i64 x2] from (Bk.new W _ _).alloc _)
  have k2 := Lib.hid (show Bk ((W.alloc (.cells #[.int .i64 x1, .int .i64 x2] 41)).alloc (.cells #[.int .i64 y1, .int .i64 y2] 41)) (W.heap.size + 1) 41 #[.int .i64 y1, .int .i64 y2] from by
    have := Bk.new (W.alloc (.cells #[.int .i64 x1, .int .i64 x2] 41)) 41 #[.int .i64 y1, .int .i64 y2]
    rwa [World.size_alloc] at this)
  obtain ⟨K1, hK1⟩ : ∃ K, K = W.heap.size := ⟨_, rfl⟩
  rw [← hK1] at k1 k2
  have HK1 := Lib.hid hK1
  clear hK1
  go_enter Tryd.func26, Tryd.ntmps26
  go_upto_region 1 with fail
  rw [← HK1.out]
  generalize (W.alloc (.cells #[.int .i64 x1, .int .i64 x2] 41)).alloc (.cells #[.int .i64 y1, .int .i64 y2] 41) = w1 at *
  have z1 := fun p : GrownBy => cell_grown (w := w1) (a := ⟨K1, 0, none⟩) k1.out.lt (k1.out.cell 0) p.n p.os
  have z2 := fun p : GrownBy => cell_grown (w := w1) (a := ⟨K1, 1, none⟩) k1.out.lt (k1.out.cell 1) p.n p.os
  have z3 := fun p : GrownBy => cell_grown (w := w1) (a := ⟨K1 + 1, 0, none⟩) k2.out.lt (k2.out.cell 0) p.n p.os
  have z4 := fun p : GrownBy => cell_grown (w := w1) (a := ⟨K1 + 1, 1, none⟩) k2.out.lt (k2.out.cell 1) p.n p.os
  refine wp_region_quiet_tail (C := fun w' => ∃ p : GrownBy, w' = grow (w1.drewN p.n) p.os) 10 (by kernel_rfl) (by kernel_rfl) ⟨⟨1, #[]⟩, by rw [grow_empty]; rfl⟩ ?_
  simp only [List.take_succ_cons, List.take_zero, List.drop_succ_cons, List.drop_zero]
  iterate 5 (first
    | go_big_quiet_skip
    | (go_big_quiet_want; go_big_quiet_op; first | go_big_quiet_on | go_big_quiet_call (exact grown_same (C1.out _))))
  iterate 5 (first
    | go_big_quiet_skip
    | (go_big_quiet_want; go_big_quiet_op; first | go_big_quiet_on | go_big_quiet_call (exact grown_same (C2.out _))))
  refine wpQuiet_nil ?_
  rintro _ ⟨⟨nq, osq⟩, rfl⟩
  obtain ⟨w2, h2⟩ : ∃ w2, w2 = grow (w1.drewN nq) osq := ⟨_, rfl⟩
  have H2 := Lib.hid h2
  rw [← h2]
  obtain ⟨V, hV⟩ : ∃ V, V = w2.heap.size := ⟨_, rfl⟩
  have HV := Lib.hid hV
  have OR := Lib.hid (CO.out (w2.alloc (.cells #[.int .i64 c1, .int .i64 c2] 3)) V (by rw [hV]; exact Bk.new w2 _ _))
  clear h2 hV z1 z2 z3 z4 k1 k2 C1 C2 CO
  go_wp2_with (first | (rw [← HV.out]; refine OR.out.mono ?_; rintro e w3 ⟨rfl, rfl⟩) | fail)
  go_ret
  obtain ⟨os, hg⟩ := G.out
  exact ⟨rfl, nq, os ++ osq ++ #[.cells #[.int .i64 c1, .int .i64 c2] 3 (0, 0)], by
    rw [alloc_eq_grow, H2.out, hg]
    show grow (grow (grow ((W.drewN 0).drewN nq) os) osq) _ = _
    rw [World.drewN_drewN, Nat.zero_add, grow_grow, grow_grow, Array.append_assoc]⟩
/-- The order of arcs. -/
def pl (p q : Int × Int) : Prop := p.1 < q.1 ∨ (p.1 = q.1 ∧ p.2 ≤ q.2)
theorem lt_arc (x y : Int × Int) : ltOf cfP x y = decide (x.1 < y.1 ∨ (x.1 = y.1 ∧ x.2 < y.2)) := by
  unfold ltOf cfP orI cmpI
  by_cases h1 : x.1 < y.1
  · simp [h1]
  · by_cases h2 : y.1 < x.1
    · have : ¬ x.1 = y.1 := by omega
      simp [h1, h2, this]
    · have e : x.1 = y.1 := by omega
      by_cases h3 : x.2 < y.2
      · simp [e, h3]
      · by_cases h4 : y.2 < x.2 <;> simp [e, h3, h4]
theorem swo_arc : SWO (ltOf cfP) where
  irrefl x := by rw [lt_arc]; simp
  trans x y z h1 h2 := by
    rw [lt_arc] at *
    have h1 := of_decide_eq_true h1
    have h2 := of_decide_eq_true h2
    exact decide_eq_true (by omega)
  ntrans x y z h1 h2 := by
    rw [lt_arc] at *
    have h1 := of_decide_eq_false h1
    have h2 := of_decide_eq_false h2
    exact decide_eq_false (by omega)
theorem sort_arcs {w : World} {F : Nat → Prop} {v : Value} {l : List (Int × Int)} (h : Rk w F 41 2 pC v l) (hn : l.length < 4611686018427387904) :
    Calls Tryd.prog 25 #[v, .func (.func 26) #[] #[]] w fun e w' => e = .returned (.tuple #[]) ∧ ∃ l' : List (Int × Int), l'.Perm l ∧ l'.Pairwise pl ∧ Rk w' F 41 2 pC v l' ∧ w.grownBy w' v.ownBlock := by
  rcases h with ⟨rfl, rfl⟩ | ⟨b, off, cap, cur, rfl, hF, hA⟩
  · refine (AnyF.slices_SortFunc_none Tryd.sortArc none 0 _ w).mono ?_
    rintro e w' ⟨rfl, rfl⟩
    exact ⟨rfl, [], List.Perm.refl _, List.Pairwise.nil, Rk.nil _ _ _ _ _, ⟨rfl, rfl, rfl, Nat.le_refl _, fun _ _ _ => rfl⟩⟩
  · have hc := AnyQ.slices_SortFunc Tryd.sortArc 2 Tryd.isAgg41 Tryd.sizeOf41 pC pC_len pC_one cfP swo_arc 26 #[] b off cap l.toArray w
      (enters_of Tryd.func26 (by kernel_rfl) rfl) (fun _ _ _ _ x y => cmp_arc x y _) (hA.holds pC_len (by decide)) hA.bk.lt (by simpa using hn)
    refine hc.mono ?_
    rintro e w' ⟨rfl, d', n, os, hp, hs, rfl⟩
    obtain ⟨hp1, hp2, hp3⟩ := hp
    have hsz : d'.size = l.length := by simpa using hp1
    have hl' : d'.toList.length = l.length := by simpa using hsz
    have st := hA.sorted (l' := d'.toList) pC_len (by decide) hl' n os
    refine ⟨rfl, d'.toList, ?_, ?_, .inr ⟨b, off, cap, _, by rw [hl'], hF, by simpa using st.1⟩, by show w.grownBy _ (some b); simpa using st.2⟩
    · have : (d'.extract 0 l.toArray.size).toList = d'.toList := by
        rw [show l.toArray.size = d'.size by rw [hsz]; simp, Array.extract_size]
      rw [this, Array.extract_size] at hp3
      exact hp3
    · rw [List.pairwise_iff_getElem]
      intro i j hi hj hij
      have := hs i j (Nat.zero_le _) hij (by rw [hl'] at hj; simpa using hj)
      rw [lt_arc] at this
      have e1 : d'[i]! = d'.toList[i] := by rw [getElem!_pos d' i (by simpa using hi)]; simp
      have e2 : d'[j]! = d'.toList[j] := by rw [getElem!_pos d' j (by simpa using hj)]; simp
      rw [e1, e2] at this
      have h8 := of_decide_eq_false this
      unfold pl
      omega
end Go.Proofs.YtnpnpkaklamboaaDoor
