/- Names compared; the library's sort at names. -/
import Derived.Test.YtnpnpkaklamboaaDoorLkN2
import Derived.Sort.Walk0
set_option linter.unusedVariables false
set_option linter.unusedSimpArgs false
namespace Go.Proofs.YtnpnpkaklamboaaDoor
open Go.RowKit Go.Shelf Go.Sort

theorem isnan_str (x : ByteArray) (w : World) : Calls Tryd.prog 67 #[.string x] w fun e w' => e = .returned (.bool false) ∧ w' = w := by
  go_enter Tryd.func67, Tryd.ntmps67
  go_wp2
  go_ret
  exact ⟨rfl, rfl⟩
/-- Strings compared. -/
def cmpS (x y : ByteArray) : Int := if Op.bytesLess x.toList y.toList = true then -1 else if (x.toList == y.toList) = true then 0 else 1
set_option maxHeartbeats 1000000 in
theorem cmpstr_any (x y : ByteArray) (w : World) : Calls Tryd.prog 46 #[.string x, .string y] w fun e w' => e = .returned (.int .i64 (cmpS x y)) ∧ w' = w := by
  have C1 := Lib.hid (isnan_str x w); have C2 := Lib.hid (isnan_str y w)
  obtain ⟨c, hc⟩ : ∃ c, c = cmpS x y := ⟨_, rfl⟩
  have HC := Lib.hid hc
  rw [← hc]
  clear hc
  obtain ⟨p, hp⟩ : ∃ p, p = Op.bytesLess x.toList y.toList := ⟨_, rfl⟩
  obtain ⟨q, hq⟩ : ∃ q, q = (x.toList == y.toList) := ⟨_, rfl⟩
  have l1 := hp.symm
  have l2 := hq.symm
  have HP := Lib.hid hp; have HQ := Lib.hid hq
  clear hp hq
  go_enter Tryd.func46, Tryd.ntmps46
  go_wp2_with fail
  refine C1.out.mono ?_
  rintro e w1 ⟨rfl, rfl⟩
  go_wp2_with fail
  refine C2.out.mono ?_
  rintro e w2 ⟨rfl, rfl⟩
  cases p with
  | true =>
    obtain rfl : c = -1 := by rw [HC.out]; unfold cmpS; rw [if_pos HP.out.symm]
    clear HC C1 C2
    go_wp2
    go_ret
    exact ⟨rfl, rfl⟩
  | false =>
    cases q with
    | true =>
      obtain rfl : c = 0 := by rw [HC.out]; unfold cmpS; rw [if_neg (by rw [← HP.out]; simp), if_pos HQ.out.symm]
      clear HC C1 C2
      go_wp2
      go_ret
      exact ⟨rfl, rfl⟩
    | false =>
      obtain rfl : c = 1 := by rw [HC.out]; unfold cmpS; rw [if_neg (by rw [← HP.out]; simp), if_neg (by rw [← HQ.out]; simp)]
      clear HC C1 C2
      go_wp2
      go_ret
      exact ⟨rfl, rfl⟩
def cfN (p q : Nm) : Int := orI (cmpI p.s q.s) (cmpS p.t q.t)
set_option maxRecDepth 100000 in
set_option maxHeartbeats 2000000 in
theorem cmp_name (x y : Nm) (W : World) : Calls Tryd.prog 23 #[.agg (nC x).toArray, .agg (nC y).toArray] W fun e w' => e = .returned (.int .i64 (cfN x y)) ∧ ∃ q os', w' = grow (W.drewN q) os' := by
  obtain ⟨x1, x2⟩ := x; obtain ⟨y1, y2⟩ := y
  have C1 := Lib.hid (fun w => cmpint_any x1 y1 w)
  have C2 := Lib.hid (fun w => cmpstr_any x2 y2 w)
  obtain ⟨c1, h1⟩ : ∃ c, c = cmpI x1 y1 := ⟨_, rfl⟩
  obtain ⟨c2, h2⟩ : ∃ c, c = cmpS x2 y2 := ⟨_, rfl⟩
  have CO := Lib.hid (fun w b hb => or_any c1 c2 b w hb)
  rw [show cfN ⟨x1, x2⟩ ⟨y1, y2⟩ = orI c1 c2 by rw [h1, h2]; rfl]
  rw [← h1] at C1
  rw [← h2] at C2
  obtain ⟨o, ho⟩ : ∃ o, o = orI c1 c2 := ⟨_, rfl⟩
  rw [← ho] at CO ⊢
  clear h1 h2 ho
  have G := Lib.hid (show ∃ os, (W.alloc (.cells #[.int .i64 x1, .string x2] 27)).alloc (.cells #[.int .i64 y1, .string y2] 27) = grow (W.drewN 0) os from ⟨_, by rw [alloc_eq_grow, alloc_eq_grow, grow_grow]; rfl⟩)
  have k1 := Lib.hid (show Bk ((W.alloc (.cells #[.int .i64 x1, .string x2] 27)).alloc (.cells #[.int .i64 y1, .string y2] 27)) W.heap.size 27 #[.int .i64 x1, .string x2] from (Bk.new W _ _).alloc _)
  have k2 := Lib.hid (show Bk ((W.alloc (.cells #[.int .i64 x1, .string x2] 27)).alloc (.cells #[.int .i64 y1, .string y2] 27)) (W.heap.size + 1) 27 #[.int .i64 y1, .string y2] from by
    have := Bk.new (W.alloc (.cells #[.int .i64 x1, .string x2] 27)) 27 #[.int .i64 y1, .string y2]
    rwa [World.size_alloc] at this)
  obtain ⟨K1, hK1⟩ : ∃ K, K = W.heap.size := ⟨_, rfl⟩
  rw [← hK1] at k1 k2
  have HK1 := Lib.hid hK1
  clear hK1
  go_enter Tryd.func23, Tryd.ntmps23
  go_upto_region 1 with fail
  rw [← HK1.out]
  generalize (W.alloc (.cells #[.int .i64 x1, .string x2] 27)).alloc (.cells #[.int .i64 y1, .string y2] 27) = w1 at *
  have z1 := fun p : GrownBy => cell_grown (w := w1) (a := ⟨K1, 0, none⟩) k1.out.lt (k1.out.cell 0) p.n p.os
  have z2 := fun p : GrownBy => cell_grown (w := w1) (a := ⟨K1, 1, none⟩) k1.out.lt (k1.out.cell 1) p.n p.os
  have z3 := fun p : GrownBy => cell_grown (w := w1) (a := ⟨K1 + 1, 0, none⟩) k2.out.lt (k2.out.cell 0) p.n p.os
  have z4 := fun p : GrownBy => cell_grown (w := w1) (a := ⟨K1 + 1, 1, none⟩) k2.out.lt (k2.out.cell 1) p.n p.os
  refine wp_region_quiet_tail (C := fun w' => ∃ p : GrownBy, w' = grow (w1.drewN p.n) p.os) 10 (by kernel_rfl) (by kernel_rfl) ⟨⟨1, #[]⟩, by rw [grow_empty]; rfl⟩ ?_
  simp only [List.take_succ_cons, List.take_zero, List.drop_succ_cons, List.drop_zero]
  iterate 5 (first
    | go_big_quiet_skip
    | (go_big_quiet_want; go_big_quiet_op; first | go_big_quiet_on | go_big_quiet_call (exact grown_same (C1.out _))))
  iterate 5 (first
    | go_big_quiet_skip
    | (go_big_quiet_want; go_big_quiet_op; first | go_big_quiet_on | go_big_quiet_call (exact grown_same (C2.out _))))
  refine wpQuiet_nil ?_
  rintro _ ⟨⟨nq, osq⟩, rfl⟩
  obtain ⟨w2, h2⟩ : ∃ w2, w2 = grow (w1.drewN nq) osq := ⟨_, rfl⟩
  have H2 := Lib.hid h2
  rw [← h2]
  obtain ⟨V, hV⟩ : ∃ V, V = w2.heap.size := ⟨_, rfl⟩
  have HV := Lib.hid hV
  have OR := Lib.hid (CO.out (w2.alloc (.cells #[.int .i64 c1, .int .i64 c2] 3)) V (by rw [hV]; exact Bk.new w2 _ _))
  clear h2 hV z1 z2 z3 z4 k1 k2 C1 C2 CO
  go_wp2_with (first | (rw [← HV.out]; refine OR.out.mono ?_; rintro e w3 ⟨rfl, rfl⟩) | fail)
  go_ret
  obtain ⟨os, hg⟩ := G.out
  exact ⟨rfl, nq, os ++ osq ++ #[.cells #[.int .i64 c1, .int .i64 c2] 3 (0, 0)], by
    rw [alloc_eq_grow, H2.out, hg]
    show grow (grow (grow ((W.drewN 0).drewN nq) os) osq) _ = _
    rw [World.drewN_drewN, Nat.zero_add, grow_grow, grow_grow, Array.append_assoc]⟩
/-- The order of names. -/
def nlt (p q : Nm) : Prop := p.s < q.s ∨ (p.s = q.s ∧ p.t.toList < q.t.toList)
theorem lt_name (x y : Nm) : ltOf cfN x y = true ↔ nlt x y := by
  unfold ltOf cfN orI cmpI cmpS nlt
  rw [bytesLess_eq]
  by_cases h1 : x.s < y.s
  · simp [h1]
  · by_cases h2 : y.s < x.s
    · have : ¬ x.s = y.s := by omega
      simp [h1, h2, this]
    · have e : x.s = y.s := by omega
      by_cases h3 : x.t.toList < y.t.toList
      · simp [e, h3]
      · by_cases h4 : x.t.toList = y.t.toList
        · rw [h4] at h3
          simp [e, h3, h4]
        · simp [e, h3, h4]
theorem swo_name : SWO (ltOf cfN) where
  irrefl x := by
    rw [← Bool.not_eq_true, lt_name]
    rintro (h | ⟨_, h⟩)
    · omega
    · exact List.lt_irrefl _ h
  trans x y z h1 h2 := by
    rw [lt_name] at *
    rcases h1 with h1 | ⟨e1, h1⟩
    · rcases h2 with h2 | ⟨e2, h2⟩
      · exact .inl (by omega)
      · exact .inl (by omega)
    · rcases h2 with h2 | ⟨e2, h2⟩
      · exact .inl (by omega)
      · exact .inr ⟨by omega, List.lt_trans h1 h2⟩
  ntrans x y z h1 h2 := by
    rw [← Bool.not_eq_true, lt_name] at *
    intro h3
    unfold nlt at *
    rcases h3 with h3 | ⟨e3, h3⟩
    · have a1 : ¬ x.s < y.s := fun h => h1 (.inl h)
      have a2 : ¬ y.s < z.s := fun h => h2 (.inl h)
      omega
    · have a1 : ¬ x.s < y.s := fun h => h1 (.inl h)
      have a2 : ¬ y.s < z.s := fun h => h2 (.inl h)
      have e1 : x.s = y.s := by omega
      have b1 : ¬ x.t.toList < y.t.toList := fun h => h1 (.inr ⟨e1, h⟩)
      have b2 : ¬ y.t.toList < z.t.toList := fun h => h2 (.inr ⟨by omega, h⟩)
      rw [List.not_lt] at b1 b2
      exact absurd h3 (List.not_lt.2 (List.le_trans b2 b1))
theorem nC_len (n : Nm) : (nC n).length = 2 := rfl
theorem nC_one (n : Nm) : ∀ u ∈ nC n, u.oneCell' = true := by simp [nC, Value.oneCell']
theorem sort_names {w : World} {F : Nat → Prop} {v : Value} {l : List Nm} (h : Rk w F 27 2 nC v l) (hn : l.length < 4611686018427387904) :
    Calls Tryd.prog 22 #[v, .func (.func 23) #[] #[]] w fun e w' => e = .returned (.tuple #[]) ∧ ∃ l' : List Nm, l'.Perm l ∧ l'.Pairwise (fun x y => ¬ nlt y x) ∧ Rk w' F 27 2 nC v l' ∧ w.grownBy w' v.ownBlock := by
  rcases h with ⟨rfl, rfl⟩ | ⟨b, off, cap, cur, rfl, hF, hA⟩
  · refine (AnyF.slices_SortFunc_none Tryd.sortName none 0 _ w).mono ?_
    rintro e w' ⟨rfl, rfl⟩
    exact ⟨rfl, [], List.Perm.refl _, List.Pairwise.nil, Rk.nil _ _ _ _ _, ⟨rfl, rfl, rfl, Nat.le_refl _, fun _ _ _ => rfl⟩⟩
  · have : Inhabited Nm := ⟨⟨0, ⟨#[]⟩⟩⟩
    have hc := AnyQ.slices_SortFunc Tryd.sortName 2 Tryd.isAgg27 Tryd.sizeOf27 nC nC_len nC_one cfN swo_name 23 #[] b off cap l.toArray w
      (enters_of Tryd.func23 (by kernel_rfl) rfl) (fun _ _ _ _ x y => cmp_name x y _) (hA.holds nC_len (by decide)) hA.bk.lt (by simpa using hn)
    refine hc.mono ?_
    rintro e w' ⟨rfl, d', n, os, hp, hs, rfl⟩
    obtain ⟨hp1, hp2, hp3⟩ := hp
    have hsz : d'.size = l.length := by simpa using hp1
    have hl' : d'.toList.length = l.length := by simpa using hsz
    have st := hA.sorted (l' := d'.toList) nC_len (by decide) hl' n os
    refine ⟨rfl, d'.toList, ?_, ?_, .inr ⟨b, off, cap, _, by rw [hl'], hF, by simpa using st.1⟩, by show w.grownBy _ (some b); simpa using st.2⟩
    · have : (d'.extract 0 l.toArray.size).toList = d'.toList := by
        rw [show l.toArray.size = d'.size by rw [hsz]; simp, Array.extract_size]
      rw [this, Array.extract_size] at hp3
      exact hp3
    · rw [List.pairwise_iff_getElem]
      intro i j hi hj hij
      have := hs i j (Nat.zero_le _) hij (by rw [hl'] at hj; simpa using hj)
      rw [← Bool.not_eq_true, lt_name] at this
      have e1 : d'[i]! = d'.toList[i] := by rw [getElem!_pos d' i (by simpa using hi)]; simp
      have e2 : d'[j]! = d'.toList[j] := by rw [getElem!_pos d' j (by simpa using hj)]; simp
      rw [e1, e2] at this
      exact this
end Go.Proofs.YtnpnpkaklamboaaDoor
