/- slices.Compact at arcs. -/
import Derived.Test.YtnpnpkaklamboaaDoorLkSort2
set_option linter.unusedVariables false
set_option linter.unusedSimpArgs false
namespace Go.Proofs.YtnpnpkaklamboaaDoor
open Go.RowKit Go.Shelf

section
variable {α : Type} [DecidableEq α]
/-- Without what repeats what stands ahead of it. -/
def dd (l : List α) : Nat → List α
  | 0 => []
  | n + 1 => match l[n]? with | none => dd l n | some x => if 0 < n ∧ l[n - 1]? = some x then dd l n else dd l n ++ [x]
theorem dd_new {l : List α} {n : Nat} (hn : n < l.length) (h : ¬ (0 < n ∧ l[n - 1]? = some l[n])) : dd l (n + 1) = dd l n ++ [l[n]] := by
  rw [dd, List.getElem?_eq_getElem hn]
  dsimp only
  rw [if_neg h]
theorem dd_old {l : List α} {n : Nat} (hn : n < l.length) (h : 0 < n ∧ l[n - 1]? = some l[n]) : dd l (n + 1) = dd l n := by
  rw [dd, List.getElem?_eq_getElem hn]
  dsimp only
  rw [if_pos h]
theorem dd_mem {l : List α} : ∀ n, n ≤ l.length → ∀ x, x ∈ dd l n ↔ x ∈ l.take n
  | 0, _, x => by simp [dd]
  | n + 1, hn, x => by
    have ih := dd_mem (l := l) n (by omega) x
    have hn' : n < l.length := by omega
    rw [List.take_succ_eq_append_getElem hn', List.mem_append, List.mem_singleton]
    by_cases h : 0 < n ∧ l[n - 1]? = some l[n]
    · rw [dd_old hn' h, ih]
      refine ⟨.inl, fun h2 => h2.elim id fun e => ?_⟩
      have h3 := h.2
      have h0 := h.1
      rw [List.getElem?_eq_getElem (by omega)] at h3
      have h4 := Option.some.inj h3
      rw [e, ← h4]
      exact List.mem_take_iff_getElem.2 ⟨n - 1, by omega, rfl⟩
    · rw [dd_new hn' h, List.mem_append, List.mem_singleton, ih]
theorem dd_sorted {le : α → α → Prop} (anti : ∀ x y, le x y → le y x → x = y) {l : List α} (hs : l.Pairwise le) : ∀ n, n ≤ l.length → (dd l n).Pairwise fun x y => le x y ∧ x ≠ y
  | 0, _ => by simp [dd]
  | n + 1, hn => by
    have ih := dd_sorted anti hs n (by omega)
    have hn' : n < l.length := by omega
    by_cases h : 0 < n ∧ l[n - 1]? = some l[n]
    · rw [dd_old hn' h]; exact ih
    · rw [dd_new hn' h, List.pairwise_append]
      refine ⟨ih, List.pairwise_singleton _ _, fun x hx y hy => ?_⟩
      rw [List.mem_singleton] at hy
      subst hy
      rw [dd_mem n (by omega)] at hx
      obtain ⟨i, hi, rfl⟩ := List.mem_take_iff_getElem.1 hx
      have hi2 : i < n := by omega
      have le1 := List.pairwise_iff_getElem.1 hs i n (by omega) hn' hi2
      refine ⟨le1, fun e => h ⟨by omega, ?_⟩⟩
      rw [List.getElem?_eq_getElem (by omega)]
      congr 1
      have le2 := List.pairwise_iff_getElem.1 hs (n - 1) n (by omega) hn' (by omega)
      refine anti _ _ le2 ?_
      by_cases e2 : i = n - 1
      · subst e2; exact e ▸ e ▸ le2
      · have le3 := List.pairwise_iff_getElem.1 hs i (n - 1) (by omega) (by omega) (by omega)
        rw [e] at le3
        exact le3
/-- A row that is being made compact: k kept of the first j. -/
def Cm (l m : List α) (k j : Nat) : Prop := k < j ∧ j ≤ l.length ∧ m.length = l.length ∧ m.take k = dd l j ∧ ∀ i, j ≤ i + 1 → m[i]? = l[i]?
theorem Cm.start {l : List α} {k : Nat} (hk : k + 1 < l.length) (hd : dd l (k + 1) = l.take (k + 1)) (he : l[k] = l[k + 1]) : Cm l l (k + 1) (k + 2) :=
  ⟨by omega, by omega, rfl, by rw [dd_old (n := k + 1) hk ⟨by omega, by rw [Nat.add_sub_cancel, List.getElem?_eq_getElem (by omega), he]⟩, hd], fun i _ => rfl⟩
theorem Cm.at_ {l m : List α} {k j : Nat} (h : Cm l m k (j + 1)) (hj : j + 1 < l.length) : ∃ (h1 : j < m.length) (h2 : j + 1 < m.length), m[j] = l[j] ∧ m[j + 1] = l[j + 1] := by
  obtain ⟨_, _, h3, _, h5⟩ := h
  have a := h5 j (by omega)
  have b := h5 (j + 1) (by omega)
  rw [List.getElem?_eq_getElem (by omega), List.getElem?_eq_getElem (by omega)] at a b
  exact ⟨by omega, by omega, Option.some.inj a, Option.some.inj b⟩
theorem Cm.skip {l m : List α} {k j : Nat} (h : Cm l m k (j + 1)) (hj : j + 1 < l.length) (he : l[j] = l[j + 1]) : Cm l m k (j + 2) := by
  obtain ⟨h1, h2, h3, h4, h5⟩ := h
  exact ⟨by omega, by omega, h3, by rw [h4, dd_old (n := j + 1) hj ⟨by omega, by rw [Nat.add_sub_cancel, List.getElem?_eq_getElem (by omega), he]⟩], fun i hi => h5 i (by omega)⟩
theorem Cm.keep {l m : List α} {k j : Nat} (h : Cm l m k (j + 1)) (hj : j + 1 < l.length) (he : l[j] ≠ l[j + 1]) : Cm l (m.set k l[j + 1]) (k + 1) (j + 2) := by
  obtain ⟨h1, h2, h3, h4, h5⟩ := h
  have hk : k < m.length := by omega
  refine ⟨by omega, by omega, by rw [List.length_set]; exact h3, ?_, fun i hi => ?_⟩
  · rw [List.take_succ_eq_append_getElem (by rw [List.length_set]; exact hk), List.getElem_set_self, List.take_set_of_le (Nat.le_refl _), h4, dd_new (n := j + 1) hj fun h => he ?_]
    have h2 := h.2
    rw [Nat.add_sub_cancel, List.getElem?_eq_getElem (by omega)] at h2
    exact Option.some.inj h2
  · rw [List.getElem?_set_ne (by omega)]
    exact h5 i (by omega)
theorem Cm.done {l m : List α} {k j : Nat} (h : Cm l m k j) (hj : ¬ j < l.length) : m.take k = dd l l.length ∧ (dd l l.length).length = k := by
  obtain ⟨h1, h2, h3, h4, h5⟩ := h
  obtain rfl : j = l.length := by omega
  refine ⟨h4, ?_⟩
  rw [← h4, List.length_take]
  omega
end
set_option maxRecDepth 100000 in
theorem pair_equal (a b : Int × Int) (w : World) : (Op.equalIn 10000 41 (.agg #[.int .i64 a.1, .int .i64 a.2]) (.agg #[.int .i64 b.1, .int .i64 b.2])).run Tryd.prog w = .ok (decide (a = b)) w := by
  obtain ⟨a1, a2⟩ := a
  obtain ⟨b1, b2⟩ := b
  obtain ⟨i, hi⟩ : ∃ i, Tryd.prog.info? 3 = some i := ⟨_, rfl⟩
  rw [show (10000 : Nat) = 9998 + 1 + 1 from rfl, Go.run_equalIn_array w (9998 + 1) _ _ Tryd.underlying41 hi, nm_c1]
  have e0 : List.range 2 = [0, 1] := rfl
  rw [e0]
  simp only [Op.eqItems]
  go_simp
  by_cases h1 : a1 = b1 <;> by_cases h2 : a2 = b2 <;> simp [h1, h2]
theorem pair_eql (a b : Int × Int) (w : World) : (binOp .eql 41 (.agg #[.int .i64 a.1, .int .i64 a.2]) (.agg #[.int .i64 b.1, .int .i64 b.2])).run Tryd.prog w = .ok (.bool (decide (a = b))) w := by
  rw [run_eql_struct, pair_equal]; rfl
theorem pair_neq (a b : Int × Int) (w : World) : (binOp .neq 41 (.agg #[.int .i64 a.1, .int .i64 a.2]) (.agg #[.int .i64 b.1, .int .i64 b.2])).run Tryd.prog w = .ok (.bool (!decide (a = b))) w := by
  rw [run_neq_struct, pair_equal]; rfl
theorem pair_guard : Tryd.prog.eqGuardType Tryd.prog.depth 41 = false := by kernel_rfl
theorem kp_run {v : World} {o : Oper} {a : Act} {K : Act → Prop} (u : Value) (hr : ∀ x : Kp v, (execOp a.eval o).run Tryd.prog x.1 = .ok (.value u) x.1) (h : K (a.put o.dst u)) : o.quiet Tryd.prog a (fun w' => ∃ x : Kp v, w' = x.1) K :=
  ⟨u, fun w ⟨x, hx⟩ => by subst hx; unfold Oper.quietAt; rw [hr x]; exact ⟨rfl, rfl⟩, h⟩
theorem q_cmp {v : World} {o : Oper} {a : Act} {K : Act → Prop} (bo : BinOp) (t t' : TypeId) (hg : Tryd.prog.eqGuardType Tryd.prog.depth t = false) (y z : Operand) (ho : o.op = .binOp bo t y z t') (c d : Array Value) (u : Value) (hx : a.eval y = .agg c) (hy : a.eval z = .agg d)
    (hr : ∀ w : World, (binOp bo t (.agg c) (.agg d)).run Tryd.prog w = .ok u w) (h : K (a.put o.dst u)) : o.quiet Tryd.prog a (fun w' => ∃ x : Kp v, w' = x.1) K := by
  refine kp_run _ (fun x => ?_) h
  unfold execOp
  have hh : (eqGuard bo t y z (.agg c) (.agg d)).run Tryd.prog x.1 = .ok () x.1 := run_eqGuard_agg _ _ _ _ _ _ _ hg
  simp only [ho, hx, hy, Sem.run_bind, Sem.run_pure, Result.andThen_ok, hr x.1, hh]
set_option maxRecDepth 100000 in
set_option maxHeartbeats 8000000 in
theorem compact_any (w : World) (F : Nat → Prop) (v : Value) (l : List (Int × Int)) (hr : Rk w F 41 2 pC v l) (hb : l.length ≤ 1000000000) :
    Calls Tryd.prog 29 #[v] w fun e w' => ∃ v', e = .returned v' ∧ Rk w' F 41 2 pC v' (dd l l.length) ∧ Kpf (fun i => v.ownBlock = some i) w w' := by
  obtain ⟨sa, sc, hv⟩ := hr.slice
  by_cases hs : l.length < 2
  · have DE : dd l l.length = l := by
      match l, hs with
      | [], _ => rfl
      | [x], _ => rfl
    rw [DE]
    have SV := Lib.hid hv
    have R := Lib.hid hr
    rw [hv]
    have hs2 : (l.length : Int) < 2 := by omega
    clear hr hv DE hb hs
    go_enter Tryd.func29, Tryd.ntmps29
    go_wp2
    go_ret
    exact ⟨_, rfl, by rw [← SV.out]; exact R.out, .refl _ w⟩
  · rcases hr with ⟨_, hnil⟩ | ⟨b, off, cap, cur, hv2, hF, hA⟩
    · rw [hnil] at hs; exact absurd (by simp) hs
    rw [hv2]
    rw [show (Value.slice (some ⟨b, off, none⟩) l.length cap).ownBlock = some b from rfl]
    have HA := Lib.hid hA
    have FB := Lib.hid hF
    have D0 := Lib.hid (show dd l 1 = l.take 1 by
      rw [dd_new (n := 0) (by omega) (by omega), List.take_succ_eq_append_getElem (by omega)]
      rfl)
    obtain ⟨n, hn⟩ : ∃ n, n = l.length := ⟨_, rfl⟩
    have HN := Lib.hid hn
    rw [← hn]
    have n64 : n ≤ 1000000000 := by rw [hn]; exact hb
    have n2 : ¬ (n : Int) < 2 := by omega
    have n3 : 2 ≤ n := by omega
    have ncap : n ≤ cap := by rw [hn]; exact hA.le
    have cap63 : cap ≤ 9223372036854775807 := by have := hA.mx; unfold maxLen at this; omega
    clear hv hv2 hb hA hn hs hF
    go_enter Tryd.func29, Tryd.ntmps29
    go_wp2_with fail
    go_loopw [3] (fun s3 wr => ∃ (i : Nat), s3 = .int .i64 ((i : Int) + 1) ∧ i + 1 ≤ n ∧ Hid (dd l (i + 1) = l.take (i + 1) ∧ RkAt wr 41 2 pC b off cap cur l ∧ Kpf (fun i => some b = some i) w wr)) (fun s3 _ => n - (intOf s3).toNat)
    case atStart => exact ⟨0, rfl, by omega, Lib.hid ⟨D0.out, HA.out, .refl _ w⟩⟩
    case round =>
      clear HA D0
      obtain ⟨i, rfl, hin, hI⟩ := hrel
      by_cases hlt : i + 1 < n
      · have HLT := Lib.hid hlt
        have hlt2 : ((i : Int) + 1 < (n : Int)) := by omega
        have hl1 : i + 1 < l.length := by rw [← HN.out]; exact hlt
        obtain ⟨x, hx⟩ : ∃ x, x = l[i] := ⟨_, rfl⟩
        obtain ⟨y, hy⟩ : ∃ y, y = l[i + 1] := ⟨_, rfl⟩
        have HX := Lib.hid hx; have HY := Lib.hid hy
        have x0 : wr.cell? ⟨b, off + i * 2, none⟩ = some (.int .i64 x.1) := by have := hI.out.2.1.cell (j := i) (by omega) (i := 0) (u := .int .i64 x.1) (by rw [← hx]; rfl); simpa using this
        have x1 : wr.cell? ⟨b, off + i * 2 + 1, none⟩ = some (.int .i64 x.2) := hI.out.2.1.cell (j := i) (by omega) (i := 1) (u := .int .i64 x.2) (by rw [← hx]; rfl)
        have y0 : wr.cell? ⟨b, off + (i + 1) * 2, none⟩ = some (.int .i64 y.1) := by have := hI.out.2.1.cell (j := i + 1) hl1 (i := 0) (u := .int .i64 y.1) (by rw [← hy]; rfl); simpa using this
        have y1 : wr.cell? ⟨b, off + (i + 1) * 2 + 1, none⟩ = some (.int .i64 y.2) := hI.out.2.1.cell (j := i + 1) hl1 (i := 1) (u := .int .i64 y.2) (by rw [← hy]; rfl)
        clear hx hy
        have x0 := fun x : Kp wr => x.cell x0
        have x1 := fun x : Kp wr => x.cell x1
        have y0 := fun x : Kp wr => x.cell y0
        have y1 := fun x : Kp wr => x.cell y1
        have NQ := Lib.hid (fun w => pair_eql y x w)
        obtain ⟨d, hd⟩ : ∃ d, d = decide (y = x) := ⟨_, rfl⟩
        have HD := Lib.hid hd
        rw [← hd] at NQ
        clear hd
        go_upto_region 6 with fail
        refine wp_region_kept (by kernel_rfl) (by kernel_rfl) ?_
        iterate 9 (first
          | go_big_quiet_skip
          | (go_big_quiet_want; go_big_quiet_op; first | go_big_quiet_on))
        (go_big_quiet_want; refine q_cmp .eql 41 _ pair_guard _ _ rfl _ _ _ rfl rfl (fun w => NQ.out w) ?_; simp only [Act.put, List.setIfInBounds_toArray, List.set_cons_succ, List.set_cons_zero]; go_big_quiet_on)
        refine wpQuiet_nil ?_
        rintro _ ⟨xw, rfl⟩
        have hb2 := xw.2
        have A2 := Lib.hid (hI.out.2.1.kept hb2)
        have K2 := Lib.hid (hI.out.2.2.same (.of_below hb2))
        have D2 := Lib.hid hI.out.1
        clear x0 x1 y0 y1 NQ hI hb2
        generalize xw.1 = w2 at A2 K2 ⊢
        clear xw
        cases d with
        | false =>
          have NE := Lib.hid (show y ≠ x from of_decide_eq_false HD.out.symm)
          go_wp2
          go_roundw
          case rel => exact ⟨i + 1, by go_num, by have := HLT.out; omega, Lib.hid ⟨by rw [dd_new (n := i + 1) hl1 (fun h => by
            have h2 := h.2
            rw [Nat.add_sub_cancel, List.getElem?_eq_getElem (by omega), ← HX.out, ← HY.out] at h2
            exact NE.out (Option.some.inj h2).symm), List.take_succ_eq_append_getElem hl1, D2.out], A2.out, K2.out⟩⟩
          case measure => have := HLT.out; simp [intOf]; omega
        | true =>
          have EQ := Lib.hid (show y = x from of_decide_eq_true HD.out.symm)
          have C0 := Lib.hid (Cm.start hl1 D2.out (by rw [← HX.out, ← HY.out, EQ.out]))
          have hic : i + 1 ≤ cap := by omega
          have hic2 : ¬ (cap = i + 1) := by omega
          clear HD
          as_aux_lemma =>
            go_wp2_with fail
            go_loopw [3, 5] (fun s3 s5 wr => ∃ (k j : Nat) (m : List (Int × Int)) (cu : Array Value), s3 = .int .i64 (k : Int) ∧ s5 = .int .i64 ((j : Int) + 1) ∧ i + 1 + (j + 1) ≤ n ∧ k ≤ i + 1 + j ∧ Hid (Cm l m k (i + 1 + j + 1) ∧ RkAt wr 41 2 pC b off cap cu m ∧ Kpf (fun i => some b = some i) w wr)) (fun _ s5 _ => n - (intOf s5).toNat)
            case atStart => exact ⟨i + 1, 0, l, cur, by go_num, rfl, by omega, by omega, Lib.hid ⟨C0.out, A2.out, K2.out⟩⟩
            case round =>
              clear C0 A2 K2 D2
              obtain ⟨k, j, m, cu, rfl, rfl, hjn, hkj, hI⟩ := hrel
              by_cases hlt2 : i + 1 + (j + 1) < n
              · have HLT2 := Lib.hid hlt2
                have hl2 : i + 1 + j + 1 < l.length := by rw [← HN.out]; omega
                obtain ⟨q1, q2, e1, e2⟩ := hI.out.1.at_ hl2
                obtain ⟨x', hx⟩ : ∃ x', x' = l[i + 1 + j] := ⟨_, rfl⟩
                obtain ⟨y', hy⟩ : ∃ y', y' = l[i + 1 + j + 1] := ⟨_, rfl⟩
                have HX2 := Lib.hid hx; have HY2 := Lib.hid hy
                rw [← hx] at e1
                rw [← hy] at e2
                have x0 := fun x : Kp wr => x.cell (show wr.cell? ⟨b, off + (i + 1) * 2 + j * 2, none⟩ = some (.int .i64 x'.1) by have := hI.out.2.1.cell (j := i + 1 + j) q1 (i := 0) (u := .int .i64 x'.1) (by rw [e1]; rfl); rw [← this]; congr 2; omega)
                have x1 := fun x : Kp wr => x.cell (show wr.cell? ⟨b, off + (i + 1) * 2 + j * 2 + 1, none⟩ = some (.int .i64 x'.2) by have := hI.out.2.1.cell (j := i + 1 + j) q1 (i := 1) (u := .int .i64 x'.2) (by rw [e1]; rfl); rw [← this]; congr 2; omega)
                have y0 := fun x : Kp wr => x.cell (show wr.cell? ⟨b, off + (i + 1) * 2 + (j + 1) * 2, none⟩ = some (.int .i64 y'.1) by have := hI.out.2.1.cell (j := i + 1 + j + 1) q2 (i := 0) (u := .int .i64 y'.1) (by rw [e2]; rfl); rw [← this]; congr 2; omega)
                have y1 := fun x : Kp wr => x.cell (show wr.cell? ⟨b, off + (i + 1) * 2 + (j + 1) * 2 + 1, none⟩ = some (.int .i64 y'.2) by have := hI.out.2.1.cell (j := i + 1 + j + 1) q2 (i := 1) (u := .int .i64 y'.2) (by rw [e2]; rfl); rw [← this]; congr 2; omega)
                have hlt3 : j + 1 < n - (i + 1) := by omega
                have NQ := Lib.hid (fun w => pair_neq y' x' w)
                obtain ⟨d, hd⟩ : ∃ d, d = decide (y' = x') := ⟨_, rfl⟩
                have HD := Lib.hid hd
                rw [← hd] at NQ
                clear hd hx hy e1 e2 q1 q2
                go_upto_region 11 with fail
                refine wp_region_kept (by kernel_rfl) (by kernel_rfl) ?_
                iterate 9 (first
                  | go_big_quiet_skip
                  | (go_big_quiet_want; go_big_quiet_op; first | go_big_quiet_on))
                (go_big_quiet_want; refine q_cmp .neq 41 _ pair_guard _ _ rfl _ _ _ rfl rfl (fun w => NQ.out w) ?_; simp only [Act.put, List.setIfInBounds_toArray, List.set_cons_succ, List.set_cons_zero]; go_big_quiet_on)
                refine wpQuiet_nil ?_
                rintro _ ⟨xw, rfl⟩
                have hb2 := xw.2
                have z0 := y0 xw
                have z1 := y1 xw
                have A3 := Lib.hid (hI.out.2.1.kept hb2)
                have K3 := Lib.hid (hI.out.2.2.same (.of_below hb2))
                have C3 := Lib.hid hI.out.1
                clear x0 x1 y0 y1 NQ hI hb2
                generalize xw.1 = w3 at A3 K3 z0 z1 ⊢
                clear xw
                cases d with
                | true =>
                  have E2 := Lib.hid (show y' = x' from of_decide_eq_true HD.out.symm)
                  go_wp2
                  go_roundw
                  case rel => exact ⟨k, j + 1, m, cu, rfl, by go_num, by have := HLT2.out; omega, by omega, Lib.hid ⟨C3.out.skip hl2 (by rw [← HX2.out, ← HY2.out, E2.out]), A3.out, K3.out⟩⟩
                  case measure => have := HLT2.out; simp [intOf]; omega
                | false =>
                  have N2 := Lib.hid (show y' ≠ x' from of_decide_eq_false HD.out.symm)
                  have hkm : k < m.length := by have := C3.out.2.2.1; have := HN.out; omega
                  have hkn : k < n := by omega
                  have THR := Lib.hid (A3.out.there (j := k) (by have := A3.out.le; omega))
                  have fz := A3.out.bk.fz
                  have P3 := Lib.hid (A3.out.put pC_len k hkm y')
                  have K4 := Lib.hid (K3.out.cells (b := b) (.inl rfl) (off + k * 2) (pC y'))
                  go_wp2_with (first | (refine wpList_store_mid rfl 41 _ _ rfl b (off + k * 2) #[.int .i64 y'.1, .int .i64 y'.2] rfl rfl THR.out (by kernel_rfl) (by simp [Value.oneCell']) ?_))
                  go_roundw
                  case rel => exact ⟨k + 1, j + 1, m.set k y', _, by go_num, by go_num, by have := HLT2.out; omega, by omega, Lib.hid ⟨by rw [HY2.out]; exact C3.out.keep hl2 (by rw [← HX2.out, ← HY2.out]; exact fun e => N2.out e.symm), P3.out, K4.out⟩⟩
                  case measure => have := HLT2.out; simp [intOf]; omega
              · have DN := Lib.hid (hI.out.1.done (by rw [← HN.out]; omega))
                have A3 := Lib.hid hI.out.2.1
                have K3 := Lib.hid hI.out.2.2
                have hlt3 : ¬ (j + 1 < n - (i + 1)) := by omega
                have hkn : k ≤ n := by omega
                have hkc : k ≤ cap := by omega
                have hkc2 : ¬ (cap = k) := by have := hI.out.1.1; omega
                clear hI hlt2
                go_wp2_with (refine wpList_clear_rk rfl _ 36 rfl (.agg #[.int .i64 0, .int .i64 0]) Tryd.underlying36 (fun w => by kernel_rfl) rfl (by simp [Value.oneCell', Value.cells]) A3.out k (n - k) (cap - k) (by omega) rfl ?_; intro vs)
                go_ret
                exact ⟨_, rfl, .inr ⟨b, off, cap, _, by rw [HN.out, DN.out.2]; rfl, FB.out, by rw [HN.out, ← DN.out.1]; exact A3.out.cut pC_len k vs⟩, K3.out.cells (.inl rfl) _ _⟩
      · obtain rfl : i + 1 = n := by omega
        have DE := Lib.hid (show dd l (i + 1) = l by rw [hI.out.1, HN.out, List.take_length])
        have A3 := Lib.hid hI.out.2.1
        have K3 := Lib.hid hI.out.2.2
        clear hI hlt
        go_wp2
        go_ret
        exact ⟨_, rfl, .inr ⟨b, off, cap, _, by rw [DE.out, ← HN.out]; rfl, FB.out, by rw [DE.out]; exact A3.out⟩, K3.out⟩
end Go.Proofs.YtnpnpkaklamboaaDoor
