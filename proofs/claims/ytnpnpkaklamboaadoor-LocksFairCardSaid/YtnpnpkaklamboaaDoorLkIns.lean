/- A hold at its place: cmp.Compare, slices.BinarySearchFunc, slices.Insert; (*queue).add. -/
import Derived.Test.YtnpnpkaklamboaaDoorLkIdx
import Derived.Lib.Overlaps
import Derived.Deep.RegionLaw
import Derived.Deep.CutBlock
import Derived.Deep.DeepCutAuto
set_option linter.unusedVariables false
set_option linter.unusedSimpArgs false
namespace Go.Proofs.YtnpnpkaklamboaaDoor
open Go.RowKit Go.Shelf

def cmpI (a b : Int) : Int := if a < b then -1 else if b < a then 1 else 0
theorem nan_int (x : Int) (w : World) : Calls Tryd.prog 48 #[.int .i64 x] w fun e w' => e = .returned (.bool false) ∧ w' = w := by
  go_enter Tryd.func48, Tryd.ntmps48
  go_wp2
  go_ret
  exact ⟨by first | rfl | simp, rfl⟩
set_option maxHeartbeats 1000000 in
theorem compare_int (x y : Int) (w : World) : Calls Tryd.prog 28 #[.int .i64 x, .int .i64 y] w fun e w' => e = .returned (.int .i64 (cmpI x y)) ∧ w' = w := by
  have N := Lib.hid (fun (z : Int) (w : World) => nan_int z w)
  by_cases h1 : x < y
  · rw [show cmpI x y = -1 from if_pos h1]
    go_enter Tryd.func28, Tryd.ntmps28
    go_wp2_with fail
    refine (N.out _ _).mono ?_
    rintro e w' ⟨rfl, rfl⟩
    go_wp2_with fail
    refine (N.out _ _).mono ?_
    rintro e w' ⟨rfl, rfl⟩
    go_wp2
    go_ret
    exact ⟨rfl, rfl⟩
  · by_cases h2 : y < x
    · rw [show cmpI x y = 1 by unfold cmpI; rw [if_neg h1, if_pos h2]]
      go_enter Tryd.func28, Tryd.ntmps28
      go_wp2_with fail
      refine (N.out _ _).mono ?_
      rintro e w' ⟨rfl, rfl⟩
      go_wp2_with fail
      refine (N.out _ _).mono ?_
      rintro e w' ⟨rfl, rfl⟩
      go_wp2
      go_ret
      exact ⟨rfl, rfl⟩
    · rw [show cmpI x y = 0 by unfold cmpI; rw [if_neg h1, if_neg h2]]
      go_enter Tryd.func28, Tryd.ntmps28
      go_wp2_with fail
      refine (N.out _ _).mono ?_
      rintro e w' ⟨rfl, rfl⟩
      go_wp2_with fail
      refine (N.out _ _).mono ?_
      rintro e w' ⟨rfl, rfl⟩
      go_wp2
      go_ret
      exact ⟨rfl, rfl⟩
theorem apred_any (h : Hold) (x : Int) (w : World) :
    Calls Tryd.prog 55 #[.agg #[.int .i64 h.x, .int .i64 (h.m : Int), .int .i64 (h.w : Int)], .int .i64 x] w fun e w' => e = .returned (.int .i64 (cmpI h.x x)) ∧ Below w.heap.size w w' := by
  have CC := Lib.hid (fun w => compare_int h.x x w)
  have B1 := Lib.hid ((Below.refl w.heap.size w).alloc (Nat.le_refl _) (.cells #[.int .i64 h.x, .int .i64 (h.m : Int), .int .i64 (h.w : Int)] 66))
  go_enter Tryd.func55, Tryd.ntmps55
  go_wp2_with fail
  refine (CC.out _).mono ?_
  rintro e w' ⟨rfl, rfl⟩
  go_wp2
  go_ret
  exact ⟨rfl, B1.out⟩
def SrPost (w : World) (l : List Hold) (x : Int) (e : Ending) (w' : World) : Prop := ∃ (i : Nat) (f : Bool), e = .returned (.tuple #[.int .i64 i, .bool f]) ∧ i ≤ l.length ∧ (∀ t (ht : t < l.length), t < i → l[t].x < x) ∧ (∀ t (ht : t < l.length), i ≤ t → x ≤ l[t].x) ∧ Below w.heap.size w w'
set_option maxRecDepth 100000 in
set_option maxHeartbeats 4000000 in
theorem search_any (w : World) (F : Nat → Prop) (v : Value) (l : List Hold) (x : Int) (hr : Rk w F 66 3 hC v l) (hb : l.length ≤ 1000000) (hs : l.Pairwise fun a b => a.x < b.x) :
    Calls Tryd.prog 54 #[v, .int .i64 x, .func (.func 55) #[] #[]] w (SrPost w l x) := by
  have CP := Lib.hid (fun (h : Hold) (w : World) => apred_any h x w)
  obtain ⟨sa, sc, hv⟩ := hr.slice
  have SV := Lib.hid hv
  have R := Lib.hid hr
  have HS := Lib.hid (show ∀ (a b : Nat) (hb : b < l.length), (hab : a ≤ b) → x ≤ (l[a]'(by omega)).x → x ≤ l[b].x from fun a b hb hab hn => by
    rcases Nat.lt_or_ge a b with h | h
    · have := List.pairwise_iff_getElem.1 hs a b (by omega) hb h; omega
    · obtain rfl : a = b := by omega
      exact hn)
  obtain ⟨n, hn⟩ : ∃ n, n = l.length := ⟨_, rfl⟩
  have HN := Lib.hid hn
  rw [hv, ← hn]
  have n64 : n ≤ 1000000 := by rw [hn]; exact hb
  have eg := enters_of Tryd.func55 (by kernel_rfl) rfl
  clear hr hv hn hb hs
  go_enter Tryd.func54, Tryd.ntmps54
  go_wp2_with fail
  go_loopw [9, 10] (fun s9 s10 wr => ∃ lo hi : Nat, s9 = .int .i64 lo ∧ s10 = .int .i64 hi ∧ lo ≤ hi ∧ hi ≤ n ∧ Hid (Below w.heap.size w wr ∧ (∀ t (ht : t < l.length), t < lo → l[t].x < x) ∧ (∀ t (ht : t < l.length), hi ≤ t → x ≤ l[t].x))) (fun s9 s10 _ => (intOf s10).toNat - (intOf s9).toNat)
  case atStart => exact ⟨0, n, rfl, rfl, Nat.zero_le _, Nat.le_refl _, Lib.hid ⟨Below.refl _ w, fun t _ ht => absurd ht (Nat.not_lt_zero t), fun t ht h2 => by have := HN.out; omega⟩⟩
  case round =>
    obtain ⟨lo, hi, rfl, rfl, hlh, hhn, hI⟩ := hrel
    have lo64 : lo ≤ 1000000 := by omega
    by_cases hlt : lo < hi
    · have HLT := Lib.hid hlt
      have hml : (lo + hi) / 2 < l.length := by rw [← HN.out]; omega
      have hmn : (lo + hi) / 2 < n := by omega
      rcases R.out with ⟨_, hnil⟩ | ⟨b, off, cap, cur, hv2, hF, hA⟩
      · rw [hnil] at hml; exact absurd hml (Nat.not_lt_zero _)
      · rw [SV.out] at hv2
        obtain ⟨rfl, -⟩ : sa = some ⟨b, off, none⟩ ∧ sc = cap := by simpa using hv2
        obtain ⟨y, hy⟩ : ∃ y, y = l[(lo + hi) / 2] := ⟨_, rfl⟩
        have HY := Lib.hid hy
        have Y := Lib.hid (show wr.rangeAt b (off + (lo + hi) / 2 * 3) (hC y) from by rw [HY.out]; exact (hA.kept hI.out.1).range hml)
        have CC := Lib.hid (fun w => CP.out y w)
        clear hv2 hA hF hy
        as_aux_lemma =>
          go_wp2_with (first | (refine load_hold rfl _ rfl b (off + (lo + hi) / 2 * 3) y rfl Y.out ?_))
          refine (CC.out _).mono ?_
          rintro e w2 ⟨rfl, hb2⟩
          have B2 := Lib.hid (below_then hI.out.1 hb2 hI.out.1.size)
          clear hb2
          by_cases hyx : y.x < x
          · have hc : cmpI y.x x < 0 := by unfold cmpI; rw [if_pos hyx]; decide
            have HYX := Lib.hid hyx
            clear hyx
            generalize cmpI y.x x = cv at *
            go_wp2
            go_roundw
            case rel => exact ⟨(lo + hi) / 2 + 1, hi, by first | rfl | go_num | (simp), rfl, by have := HLT.out; omega, hhn, Lib.hid ⟨B2.out, fun t ht h1 => Classical.byContradiction fun hn2 => absurd HYX.out (by rw [HY.out]; exact Int.not_lt.2 (HS.out t _ hml (by omega) (Int.not_lt.1 hn2))), hI.out.2.2⟩⟩
            case measure => have := HLT.out; simp [intOf]; omega
          · have hc : ¬ cmpI y.x x < 0 := by unfold cmpI; rw [if_neg hyx]; split <;> decide
            have HYX := Lib.hid hyx
            clear hyx
            generalize cmpI y.x x = cv at *
            go_wp2
            go_roundw
            case rel => exact ⟨lo, (lo + hi) / 2, rfl, by first | rfl | go_num | (simp), by omega, by omega, Lib.hid ⟨B2.out, hI.out.2.1, fun t ht h1 => HS.out _ t ht h1 (by rw [← HY.out]; exact HYX.out)⟩⟩
            case measure => have := HLT.out; simp [intOf]; omega
    · obtain rfl : lo = hi := by omega
      clear hlt hlh
      by_cases hin : lo < n
      · have hil : lo < l.length := by rw [← HN.out]; exact hin
        rcases R.out with ⟨_, hnil⟩ | ⟨b, off, cap, cur, hv2, hF, hA⟩
        · rw [hnil] at hil; exact absurd hil (Nat.not_lt_zero _)
        · rw [SV.out] at hv2
          obtain ⟨rfl, -⟩ : sa = some ⟨b, off, none⟩ ∧ sc = cap := by simpa using hv2
          obtain ⟨y, hy⟩ : ∃ y, y = l[lo] := ⟨_, rfl⟩
          have HY := Lib.hid hy
          have Y := Lib.hid (show wr.rangeAt b (off + lo * 3) (hC y) from by rw [HY.out]; exact (hA.kept hI.out.1).range hil)
          have CC := Lib.hid (fun w => CP.out y w)
          have y0 : wr.cell? ⟨b, off + lo * 3, none⟩ = some (.int .i64 y.x) := Y.out 0 _ rfl
          have y1 : wr.cell? ⟨b, off + lo * 3 + 1, none⟩ = some (.int .i64 (y.m : Int)) := Y.out 1 _ rfl
          have y2 : wr.cell? ⟨b, off + lo * 3 + 2, none⟩ = some (.int .i64 (y.w : Int)) := Y.out 2 _ rfl
          clear hv2 hA hF hy
          as_aux_lemma =>
            go_wp2_with fail
            refine (CC.out _).mono ?_
            rintro e w2 ⟨rfl, hb2⟩
            have B2 := Lib.hid (below_then hI.out.1 hb2 hI.out.1.size)
            clear hb2
            generalize cmpI y.x x = cv at *
            go_wp2
            go_ret2
            unfold SrPost
            exact ⟨lo, _, rfl, Nat.le_of_lt hil, hI.out.2.1, hI.out.2.2, B2.out⟩
      · have HIN := Lib.hid hin
        go_wp2
        go_ret2
        unfold SrPost
        exact ⟨lo, _, rfl, by rw [← HN.out]; exact hhn, hI.out.2.1, hI.out.2.2, hI.out.1⟩

section
variable {α : Type} {enc : α → List Value} {k : Nat} {w w' : World} {F : Nat → Prop} {e : TypeId} {v : Value} {l : List α} {b off cap : Nat} {cur : Array Value}
theorem ins_get (hk : ∀ x, (enc x).length = k) (hk0 : 0 < k) (i : Nat) (hi : i ≤ l.length) (x : α) {m : Nat} (hm : m < (l.length + 1) * k) :
    ((l.take i ++ x :: l.drop i).flatMap enc)[m]? = if m < i * k then ((l.take i).flatMap enc)[m]? else if m < (i + 1) * k then (enc x)[m - i * k]? else ((l.drop i).flatMap enc)[m - (i + 1) * k]? := by
  have h1 : ((l.take i).flatMap enc).length = i * k := by rw [fl_len hk, List.length_take, Nat.min_eq_left hi]
  rw [List.flatMap_append, List.flatMap_cons]
  by_cases c1 : m < i * k
  · rw [if_pos c1, List.getElem?_append_left (by rw [h1]; exact c1)]
  · rw [if_neg c1, List.getElem?_append_right (by rw [h1]; omega), h1]
    rw [Nat.add_mul, Nat.one_mul]
    by_cases c2 : m < i * k + k
    · rw [if_pos c2, List.getElem?_append_left (by rw [hk]; omega)]
    · rw [if_neg c2, List.getElem?_append_right (by rw [hk]; omega), hk, Nat.sub_sub]
theorem drop_flat (hk : ∀ x, (enc x).length = k) (hk0 : 0 < k) (i m : Nat) : ((l.drop i).flatMap enc)[m]? = (l.flatMap enc)[i * k + m]? := by
  by_cases hi : i ≤ l.length
  · have e : l.flatMap enc = (l.take i).flatMap enc ++ (l.drop i).flatMap enc := by rw [← List.flatMap_append, List.take_append_drop]
    have h1 : ((l.take i).flatMap enc).length = i * k := by rw [fl_len hk, List.length_take, Nat.min_eq_left hi]
    rw [e, List.getElem?_append_right (by rw [h1]; omega), h1, Nat.add_sub_cancel_left]
  · rw [List.drop_eq_nil_of_le (by omega), List.getElem?_eq_none (by simp), List.getElem?_eq_none]
    rw [fl_len hk]
    have : l.length * k ≤ i * k := Nat.mul_le_mul_right _ (by omega)
    omega
theorem take_flat (hk : ∀ x, (enc x).length = k) (hk0 : 0 < k) {i m : Nat} (hi : i ≤ l.length) (hm : m < i * k) : ((l.take i).flatMap enc)[m]? = (l.flatMap enc)[m]? := by
  have e : l.flatMap enc = (l.take i).flatMap enc ++ (l.drop i).flatMap enc := by rw [← List.flatMap_append, List.take_append_drop]
  have h1 : ((l.take i).flatMap enc).length = i * k := by rw [fl_len hk, List.length_take, Nat.min_eq_left hi]
  rw [e, List.getElem?_append_left (by rw [h1]; exact hm)]
/-- In place: what stood behind is shifted, the new one is laid between. -/
theorem RkAt.ins (h : RkAt w e k enc b off cap cur l) (hk : ∀ x, (enc x).length = k) (hk0 : 0 < k) (i : Nat) (hi : i ≤ l.length) (x : α) (hroom : l.length + 1 ≤ cap) :
    RkAt ((w.setCells b (off + (i + 1) * k) ((l.drop i).flatMap enc)).setCells b (off + i * k) (enc x)) e k enc b off cap (spl (spl cur (off + (i + 1) * k) ((l.drop i).flatMap enc)) (off + i * k) (enc x)) (l.take i ++ x :: l.drop i) := by
  have hll : (l.take i ++ x :: l.drop i).length = l.length + 1 := by simp; omega
  refine RkAt.of_flat hk (bk_cells _ _ _ _ (bk_cells _ _ _ _ h.bk)) (by rw [hll]; exact hroom) h.mx (by rw [spl_size, spl_size]; exact h.sz) fun m hm => ?_
  rw [hll] at hm
  have hcs : off + m < cur.size := by
    have : (l.length + 1) * k ≤ cap * k := Nat.mul_le_mul_right _ hroom
    have := h.sz
    omega
  have hdl : ((l.drop i).flatMap enc).length = (l.length - i) * k := by rw [fl_len hk, List.length_drop]
  have hmul : (l.length - i) * k + i * k = l.length * k := by rw [← Nat.add_mul]; congr 1; omega
  have e1 : (i + 1) * k = i * k + k := by rw [Nat.add_mul, Nat.one_mul]
  have e2 : (l.length + 1) * k = l.length * k + k := by rw [Nat.add_mul, Nat.one_mul]
  rw [spl_get, spl_get, spl_size, hk, hdl, ins_get hk hk0 i hi x hm]
  by_cases c1 : m < i * k
  · rw [if_pos c1, if_neg (by omega), if_neg (by omega), take_flat hk hk0 hi c1]
    exact h.flat hk hk0 (by have : i * k ≤ l.length * k := Nat.mul_le_mul_right _ hi; omega)
  · rw [if_neg c1]
    by_cases c2 : m < (i + 1) * k
    · rw [if_pos c2, if_pos (by omega), if_pos hcs, show off + m - (off + i * k) = m - i * k by omega]
    · rw [if_neg c2, if_neg (by omega), if_pos (by omega), if_pos hcs, show off + m - (off + (i + 1) * k) = m - (i + 1) * k by omega]
/-- In a new block: what stood ahead, the new one, what stood behind. -/
theorem RkAt.ins_new (hk : ∀ x, (enc x).length = k) (hk0 : 0 < k) (i : Nat) (hi : i ≤ l.length) (x : α) (hbk : Bk w b e cur) (hcap : l.length + 1 ≤ cap) (hmx : cap ≤ maxLen) (hsz : cap * k ≤ cur.size) (hpre : ∀ m, m < i * k → cur[m]? = (l.flatMap enc)[m]?) :
    RkAt ((w.setCells b (i * k) (enc x)).setCells b ((i + 1) * k) ((l.drop i).flatMap enc)) e k enc b 0 cap (spl (spl cur (i * k) (enc x)) ((i + 1) * k) ((l.drop i).flatMap enc)) (l.take i ++ x :: l.drop i) := by
  have hll : (l.take i ++ x :: l.drop i).length = l.length + 1 := by simp; omega
  refine RkAt.of_flat hk (bk_cells _ _ _ _ (bk_cells _ _ _ _ hbk)) (by rw [hll]; exact hcap) hmx (by rw [spl_size, spl_size]; omega) fun m hm => ?_
  rw [hll] at hm
  have hcs : m < cur.size := by
    have : (l.length + 1) * k ≤ cap * k := Nat.mul_le_mul_right _ hcap
    omega
  have hdl : ((l.drop i).flatMap enc).length = (l.length - i) * k := by rw [fl_len hk, List.length_drop]
  have hmul : (l.length - i) * k + i * k = l.length * k := by rw [← Nat.add_mul]; congr 1; omega
  have e1 : (i + 1) * k = i * k + k := by rw [Nat.add_mul, Nat.one_mul]
  have e2 : (l.length + 1) * k = l.length * k + k := by rw [Nat.add_mul, Nat.one_mul]
  rw [Nat.zero_add, spl_get, spl_get, spl_size, hk, hdl, ins_get hk hk0 i hi x hm]
  by_cases c1 : m < i * k
  · rw [if_pos c1, if_neg (by omega), if_neg (by omega), take_flat hk hk0 hi c1]
    exact hpre m c1
  · rw [if_neg c1]
    by_cases c2 : m < (i + 1) * k
    · rw [if_pos c2, if_neg (by omega), if_pos (by omega), if_pos hcs]
    · rw [if_neg c2, if_pos (by omega), if_pos hcs]
end
section
variable {P : Program} {ops : Array Oper} {rest : List Oper} {o : Oper} {a : Act} {w : World} {K : Act → World → Prop} {Q : Exit → Act → World → Prop} {E : Prop}
theorem wpList_copy_rk (hgd : o.guard = none) (d s : Operand) (t t' : TypeId) (ho : o.op = .call { callee := .builtin .copy, args := #[d, s], argTypes := #[t, t'] }) (v u : Value) (hd : a.eval d = v) (hs : a.eval s = u) {v' : Value} {w' : World}
    (hr : (Builtin.copy_ #[t, t'] o.type #[v, u]).run P w = .ok v' w') (h : wpList P ops Q rest (a.put o.dst v') w') : wpList P ops Q (o :: rest) a w := by
  refine wpList_plain hgd fun _ hK => ?_
  unfold Oper.wp execOp
  simp only [ho, resolve, invoke, builtin, Sem.run_bind, Sem.run_pure, Result.andThen_ok, List.map_toArray, List.map_cons, List.map_nil, hd, hs, hr]
  exact hK _ _ h
theorem step_copy_rk (hg : o.guard = none) (d s : Operand) (t t' : TypeId) (ho : o.op = .call { callee := .builtin .copy, args := #[d, s], argTypes := #[t, t'] }) (v u : Value) (hd : a.eval d = v) (hs : a.eval s = u) {v' : Value} {w' : World}
    (hr : (Builtin.copy_ #[t, t'] o.type #[v, u]).run P w = .ok v' w') (h : K (a.put o.dst v') w') : if Region.wanted o (yielded ops a.tmps) = true then Oper.wp P o a w K Q else E := by
  have hw : Region.wanted o (yielded ops a.tmps) = true := by simp [Region.wanted, hg]
  rw [if_pos hw]
  unfold Oper.wp execOp
  simp only [ho, resolve, invoke, builtin, Sem.run_bind, Sem.run_pure, Result.andThen_ok, List.map_toArray, List.map_cons, List.map_nil, hd, hs, hr]
  exact h
end
theorem hold_info : ∃ i, Tryd.prog.info? 66 = some i ∧ i.zero = some (.agg #[.int .i64 0, .int .i64 0, .int .i64 0]) ∧ i.size = 3 ∧ i.bytes = 24 := by
  have h : (Tryd.prog.info? 66).map (fun i => (i.zero, i.size, i.bytes)) = some (some (.agg #[.int .i64 0, .int .i64 0, .int .i64 0]), 3, 24) := by kernel_rfl
  cases hi : Tryd.prog.info? 66 with
  | none => rw [hi] at h; cases h
  | some i =>
    rw [hi] at h
    simp only [Option.map_some, Option.some.injEq, Prod.mk.injEq] at h
    exact ⟨i, rfl, h.1, h.2.1, h.2.2⟩
theorem bk_shape {w : World} {g : Nat} {t : TypeId} {cs : Array Value} (h : Bk w g t cs) : w.shape? g = some (t, cs.size) := by unfold World.shape?; rw [h]
theorem overlaps_no (w : World) (vb b o la ca lb cb : Nat) (cs cur : Array Value) (hv : Bk w vb 66 cs) (hb : Bk w b 66 cur) (hne : vb ≠ b) (hk : cur.size ≠ 0) :
    (callFunc 76 #[.slice (some ⟨vb, 0, none⟩) la ca, .slice (some ⟨b, o, none⟩) lb cb]).run Tryd.prog w = .ok (.value (.bool false)) w := by
  rw [run_callFunc_extern Tryd.func76 (by kernel_rfl) (by kernel_rfl) (by kernel_rfl) (e := Extern.SlicesOverlaps.overlaps #[58, 58] #[4]) (by kernel_rfl),
    Lib.run_overlaps_apart w 58 4 66 Tryd.underlying58 3 (fun w => by kernel_rfl) ⟨vb, 0, none⟩ ⟨b, o, none⟩ la ca lb cb hne _ _ _ _ (bk_shape hv) (bk_shape hb) hk (hv.fz 0) (hv.fz _)]
  rfl
end Go.Proofs.YtnpnpkaklamboaaDoor
