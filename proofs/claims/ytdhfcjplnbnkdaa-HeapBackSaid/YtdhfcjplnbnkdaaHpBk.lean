/- The reference's Same: two lists, pair by pair. HeapBack. -/
import Derived.Test.YtdhfcjplnbnkdaaHpLs
import Derived.Deep.MidRow
set_option linter.unusedVariables false
set_option linter.unusedSimpArgs false
namespace Go.Proofs.Ytdhfcjplnbnkdaa
open Go.RowKit Go.Maps

theorem sorted_eq : ∀ (l m : List Pr), l.Pairwise (fun x y => x.1 < y.1) → m.Pairwise (fun x y => x.1 < y.1) → (∀ x, x ∈ l ↔ x ∈ m) → l = m
  | [], [], _, _, _ => rfl
  | [], y :: m, _, _, h => absurd ((h y).2 List.mem_cons_self) List.not_mem_nil
  | x :: l, [], _, _, h => absurd ((h x).1 List.mem_cons_self) List.not_mem_nil
  | x :: l, y :: m, hl, hm, h => by
    have hl' := List.pairwise_cons.1 hl
    have hm' := List.pairwise_cons.1 hm
    have hxy : x = y := by
      rcases List.mem_cons.1 ((h x).1 List.mem_cons_self) with e | h1
      · exact e
      · rcases List.mem_cons.1 ((h y).2 List.mem_cons_self) with e | h2
        · exact e.symm
        · have := hm'.1 x h1; have := hl'.1 y h2; omega
    subst hxy
    rw [sorted_eq l m hl'.2 hm'.2 (fun z => ⟨fun hz => by
      rcases List.mem_cons.1 ((h z).1 (List.mem_cons_of_mem _ hz)) with e | h1
      · subst e; exact absurd (hl'.1 z hz) (by omega)
      · exact h1, fun hz => by
      rcases List.mem_cons.1 ((h z).2 (List.mem_cons_of_mem _ hz)) with e | h1
      · subst e; exact absurd (hm'.1 z hz) (by omega)
      · exact h1⟩)]
theorem LsP.eq {L : Nat → Nat → Ce} {l m : List Pr} (h : LsP L l) (k : LsP L m) : l = m :=
  sorted_eq l m h.sort k.sort (fun x => (h.mem x).trans (k.mem x).symm)
set_option maxRecDepth 100000 in
set_option maxHeartbeats 4000000 in
theorem same_any {w : World} {b1 b2 : Nat} {v1 v2 : Value} {l : List Pr} (h1 : w.ownsRow b1 57 3 v1 l.length (pairL l)) (h2 : w.ownsRow b2 57 3 v2 l.length (pairL l)) (hl : l.length ≤ 6144) :
    Calls Try.prog 21 #[v1, v2] w fun e w' => e = .returned (.bool true) ∧ Below w.heap.size w w' := by
  obtain ⟨a1, c1, rfl⟩ := ow_slice h1
  obtain ⟨a2, c2, rfl⟩ := ow_slice h2
  have O1 := Lib.hid h1; have O2 := Lib.hid h2; have HL := Lib.hid hl
  obtain ⟨m, hm⟩ : ∃ m, m = l.length := ⟨_, rfl⟩
  have HM := Lib.hid hm
  rw [← hm] at hl ⊢
  have M6 := Lib.hid hl
  clear h1 h2 hm hl
  go_enter Try.func21, Try.ntmps21
  go_wp2_with fail
  go_loopw [5] (fun i wr => ∃ k : Nat, k ≤ m ∧ i = .int .i64 k ∧ Below w.heap.size w wr) (fun i _ => m - (intOf i).toNat)
  case atStart => exact ⟨0, Nat.zero_le _, rfl, Below.refl _ _⟩
  case round =>
    obtain ⟨k, hk, rfl, hb⟩ := hrel
    have BW := Lib.hid hb
    clear hb
    by_cases hlt : k < m
    · have HLT := Lib.hid hlt
      have hkb : k < 9223372036854775807 := by have := M6.out; omega
      have hkl : k < l.length := by rw [← HM.out]; exact hlt
      obtain ⟨g1, cap1, e1, -, -, hr1⟩ := pair_at (ow_kept O1.out BW.out) k hkl
      obtain ⟨g2, cap2, e2, -, -, hr2⟩ := pair_at (ow_kept O2.out BW.out) k hkl
      rw [← HM.out] at e1 e2
      obtain ⟨rfl, rfl⟩ : a1 = some ⟨g1, 0, none⟩ ∧ c1 = cap1 := by rw [HM.out] at e1; simpa using e1
      obtain ⟨rfl, rfl⟩ : a2 = some ⟨g2, 0, none⟩ ∧ c2 = cap2 := by rw [HM.out] at e2; simpa using e2
      obtain ⟨pr, hpr⟩ : ∃ pr, pr = l[k] := ⟨_, rfl⟩
      rw [← hpr] at hr1 hr2
      have R1 := Lib.hid hr1; have R2 := Lib.hid hr2
      clear e1 e2 hr1 hr2 hpr hkl
      have e8 : (pr.2.toList == pr.2.toList) = true := by simp
      as_aux_lemma =>
        go_upto_region 6 with fail
        refine wp_region_held (S := fun w' => w'.rangeAt g1 (k * 3) (encP pr) ∧ w'.rangeAt g2 (k * 3) (encP pr)) (by kernel_rfl) ?_
        refine held_take (fuel := 8) (i := 0) 17 rfl rfl (by kernel_rfl) (by kernel_rfl) (by kernel_rfl) (fun _ _ _ h => h) (held_move _ rfl (by kernel_rfl)) ⟨R1.out, R2.out⟩ ?_
        refine held_take (fuel := 7) (i := 1) 18 rfl rfl (by kernel_rfl) (by kernel_rfl) (by kernel_rfl) (fun _ _ _ h => h) (held_move _ rfl (by kernel_rfl)) ⟨R1.out, R2.out⟩ ?_
        simp only [Act.put, Act.eval, List.setIfInBounds_toArray, List.set_cons_succ, List.set_cons_zero]
        refine held_take (fuel := 6) (i := 2) (v := .pointer (some ⟨g1, k * 3, none⟩)) 19 rfl rfl (by kernel_rfl) (by kernel_rfl) (by kernel_rfl) (fun _ _ _ h => h) (by refine .inl ⟨by kernel_rfl, fun wx hx => ?_⟩; unfold execOp; go_simp) ⟨R1.out, R2.out⟩ ?_
        simp only [Act.put, Act.eval, List.setIfInBounds_toArray, List.set_cons_succ, List.set_cons_zero]
        refine held_take (fuel := 5) (i := 3) (v := .agg #[.string ⟨#[]⟩, .int .i64 pr.1, .string pr.2]) 20 rfl rfl (by kernel_rfl) (by kernel_rfl) (by kernel_rfl) (fun _ _ _ h => h) (yieldsIf_load_mid (by kernel_rfl) 57 _ rfl g1 (k * 3) rfl (encP pr) _ (fun w h => h.1) Try.underlying57 rfl (by rw [show (encP pr).length = 3 from rfl]; kernel_rfl)) ⟨R1.out, R2.out⟩ ?_
        refine held_take (fuel := 4) (i := 4) 21 rfl rfl (by kernel_rfl) (by kernel_rfl) (by kernel_rfl) (fun _ _ _ h => h) (held_move _ rfl (by kernel_rfl)) ⟨R1.out, R2.out⟩ ?_
        refine held_take (fuel := 3) (i := 5) 22 rfl rfl (by kernel_rfl) (by kernel_rfl) (by kernel_rfl) (fun _ _ _ h => h) (held_move _ rfl (by kernel_rfl)) ⟨R1.out, R2.out⟩ ?_
        simp only [Act.put, Act.eval, List.setIfInBounds_toArray, List.set_cons_succ, List.set_cons_zero]
        refine held_take (fuel := 2) (i := 6) (v := .pointer (some ⟨g2, k * 3, none⟩)) 23 rfl rfl (by kernel_rfl) (by kernel_rfl) (by kernel_rfl) (fun _ _ _ h => h) (by refine .inl ⟨by kernel_rfl, fun wx hx => ?_⟩; unfold execOp; go_simp) ⟨R1.out, R2.out⟩ ?_
        simp only [Act.put, Act.eval, List.setIfInBounds_toArray, List.set_cons_succ, List.set_cons_zero]
        refine held_take (fuel := 1) (i := 7) (v := .agg #[.string ⟨#[]⟩, .int .i64 pr.1, .string pr.2]) 24 rfl rfl (by kernel_rfl) (by kernel_rfl) (by kernel_rfl) (fun _ _ _ h => h) (yieldsIf_load_mid (by kernel_rfl) 57 _ rfl g2 (k * 3) rfl (encP pr) _ (fun w h => h.2) Try.underlying57 rfl (by rw [show (encP pr).length = 3 from rfl]; kernel_rfl)) ⟨R1.out, R2.out⟩ ?_
        simp only [Act.put, Act.eval, List.setIfInBounds_toArray, List.set_cons_succ, List.set_cons_zero]
        refine held_take (fuel := 0) (i := 8) (v := .bool false) 25 rfl rfl (by kernel_rfl) (by kernel_rfl) (by kernel_rfl) (fun _ _ _ h => h) (by refine .inl ⟨by kernel_rfl, fun wx hx => ?_⟩; unfold execOp; go_simp) ⟨R1.out, R2.out⟩ ?_
        refine wpAnyH_done (by kernel_rfl) ?_ _
        simp only [Act.put, Act.eval, List.setIfInBounds_toArray, List.set_cons_succ, List.set_cons_zero]
        have BD := Lib.hid (show Below w.heap.size w wr.drew from BW.out.drew)
        clear R1 R2 O1 O2
        go_wp2
        go_roundw
        case rel => exact ⟨k + 1, by have := HLT.out; omega, by go_num, BD.out⟩
        case measure => have := HLT.out; simp [intOf]; omega
    · obtain rfl : k = m := by omega
      clear hlt hk O1 O2
      go_wp2
      go_ret
      exact ⟨rfl, BW.out⟩
end Go.Proofs.Ytdhfcjplnbnkdaa
namespace Go.Proofs.Ytdhfcjplnbnkdaa
open Go.RowKit Go.Maps

theorem ow_oth {w w' : World} {b r : Nat} {base : Nat} {e : TypeId} {size : Nat} {v : Value} {n : Nat} {xs : List Value} (h : w.ownsRow base e size v n xs) (ho : Oth w w' b r) (h1 : b < base) (h2 : r < base) : w'.ownsRow base e size v n xs :=
  ow_same h fun k hk => ho.2 k (ow_blk h hk).2.1 (by have := (ow_blk h hk).1; omega) (by have := (ow_blk h hk).1; omega)
theorem Try.info45 : (Try.prog.info? 45).map (fun i => (i.zero, i.size, i.bytes)) = some (some (.agg ud0.cs), 7, 72) := by kernel_rfl
/-- Calls that came in, and their slice's capacity. -/
structure Clz where
  l : List Cl
  cap : Nat
open Go.WideShapes in
set_option maxRecDepth 100000 in
theorem read_calls2 {H : Type} {enc : TypeId × Value → H} {w : World} {base : Nat} {held : Bool} {r : Reach} {b0 : Nat} {d : DataW H} {p : List MemPlace} {v : Value}
    (hv : Value.okWide Try.prog w r b0 22 v) (h : DataW.Trod enc Try.prog w base (fun _ => true) held 22 v d p) : ∃ x : Clz, (IsCls w v x.l ∧ x.l.length ≤ x.cap) ∧ SzOf d x.cap := by
  obtain ⟨l, hl⟩ := read_calls hv h
  obtain ⟨fuel, hf⟩ := h
  obtain ⟨a0, len0, cap0, rfl⟩ := okWide_slice Try.underlying22 hv
  have hf' : DataW.trod enc Try.prog w base (fun _ => true) held fuel 22 [.slice a0 len0 cap0] = some (d, p) := hf
  obtain ⟨a, len, cap, hve, h1, h2, hs, _⟩ := rows_trod (C := 21) Try.underlying22 (by kernel_rfl) (by omega) hf'
  obtain ⟨a', c', e, -⟩ := hl.at_
  rw [hve] at e
  injection e with _ e2 _
  exact ⟨⟨l, cap⟩, ⟨hl, by show l.length ≤ cap; omega⟩, hs⟩
def uL (us : List Ud) : List Value := us.flatMap fun u => u.cs.toList
theorem uL_len : ∀ us : List Ud, (uL us).length = us.length * 7
  | [] => rfl
  | x :: l => by
    have := uL_len l
    unfold uL at *
    rw [List.flatMap_cons, List.length_append, this, List.length_cons, show x.cs.toList.length = 7 from rfl]; omega
theorem uL_app (us : List Ud) (u : Ud) : uL (us ++ [u]) = uL us ++ u.cs.toList := by unfold uL; rw [List.flatMap_append]; simp
theorem uL_get : ∀ (l : List Ud) (t : Nat), (uL l)[t]? = (l[t / 7]?).bind fun x => x.cs.toList[t % 7]?
  | [], t => rfl
  | x :: l, t => by
    show (x.cs.toList ++ uL l)[t]? = _
    by_cases h : t < 7
    · rw [List.getElem?_append_left h, show t / 7 = 0 by omega, show t % 7 = t by omega]; rfl
    · rw [List.getElem?_append_right (by show 7 ≤ t; omega), show x.cs.toList.length = 7 from rfl, uL_get l (t - 7), show t / 7 = (t - 7) / 7 + 1 by omega, show t % 7 = (t - 7) % 7 by omega, List.getElem?_cons_succ]
theorem undo_at {w : World} {base : Nat} {v : Value} {l : List Ud} (h : w.ownsRow base 45 7 v l.length (uL l)) (i : Nat) (hi : i < l.length) : ∃ g cap, v = .slice (some ⟨g, 0, none⟩) l.length cap ∧ w.rangeAt g (i * 7) (l.getD i ud0).cs.toList := by
  rcases h.2 with ⟨_, h0⟩ | ⟨g, cap, cur, hv, hg, hh, h1, h2, h3, h4⟩
  · omega
  · refine ⟨g, cap, hv, fun j u hu => ?_⟩
    have hj : j < 7 := (List.getElem?_eq_some_iff.1 hu).1
    have hH := holds_of_block_v hh (by rw [uL_len]; exact h4)
    have hl : (uL l).length = l.length * 7 := uL_len l
    have h5 := (hH (i * 7 + j) (by simp only [List.size_toArray, hl]; omega)).1
    rw [Nat.zero_add] at h5
    rw [h5]
    have h6 : (uL l)[i * 7 + j]? = some u := by
      rw [uL_get, show (i * 7 + j) / 7 = i by omega, show (i * 7 + j) % 7 = j by omega, List.getElem?_eq_getElem hi]
      rw [List.getD_eq_getElem?_getD, List.getElem?_eq_getElem hi] at hu
      exact hu
    have h7 := (List.getElem?_eq_some_iff.1 h6)
    obtain ⟨h8, h9⟩ := h7
    simp [h8, h9]
theorem Hc.cok {pg : Nat → Pg} {n : Nat} {ch : List Nat} {L : Nat → Nat → Ce} (h : Hc pg n ch L) (p : Nat) {i : Nat} (hi : i < 6) : (L p i).ok := by
  by_cases hp : p ∈ ch
  · rw [← h.cell hp hi]
    obtain ⟨st, kd, rt, ow, -, h2, -⟩ := h.ex
    exact (h2.pgs p hp).2.2.2.1.2 i hi
  · rw [h.out hp i]; exact blank_ok
theorem Hc.pok {pg : Nat → Pg} {n : Nat} {ch : List Nat} {L : Nat → Nat → Ce} (h : Hc pg n ch L) {p : Nat} (hp : p ∈ ch) : (pg p).ok := by
  obtain ⟨st, kd, rt, ow, -, h2, -⟩ := h.ex
  exact (h2.pgs p hp).2.2.2.1
theorem putL_back (L : Nat → Nat → Ce) (p i : Nat) (c : Ce) : putL (putL L p i c) p i (L p i) = L := by
  funext q j
  by_cases e : q = p ∧ j = i
  · rw [e.1, e.2, putL_at]
  · rw [putL_ne _ _ e, putL_ne _ _ e]
/-- What was done, one thing after another: S tells the records behind each. -/
structure Tr (n : Nat) (S : Nat → Nat → Nat → Ce) (us : List Ud) : Prop where
  at_ : ∀ i, i < us.length → ∃ (p s : Nat) (c : Ce), s < 6 ∧ p < n ∧ us.getD i ud0 = udC p s (S i p s) ∧ (S i p s).ok ∧ S (i + 1) = putL (S i) p s c ∧ c.st ≠ 0
theorem Tr.nil (n : Nat) (L : Nat → Nat → Ce) : Tr n (fun _ => L) [] := ⟨fun i hi => absurd hi (Nat.not_lt_zero i)⟩
theorem Tr.snoc {n : Nat} {S : Nat → Nat → Nat → Ce} {us : List Ud} (h : Tr n S us) (p s : Nat) (c : Ce) (hs : s < 6) (hp : p < n) (hok : (S us.length p s).ok) (hc : c.st ≠ 0) :
    Tr n (fun i => if i ≤ us.length then S i else putL (S us.length) p s c) (us ++ [udC p s (S us.length p s)]) where
  at_ := fun i hi => by
    rw [List.length_append, List.length_singleton] at hi
    by_cases e : i = us.length
    · subst e
      refine ⟨p, s, c, hs, hp, ?_, ?_, ?_, hc⟩
      · simp [List.getD_eq_getElem?_getD]
      · simpa using hok
      · rw [if_neg (by omega), if_pos (Nat.le_refl _)]
    · obtain ⟨p', s', c', h1, h2, h3, h4, h5, h6⟩ := h.at_ i (by omega)
      refine ⟨p', s', c', h1, h2, ?_, ?_, ?_, h6⟩
      · rw [List.getD_eq_getElem?_getD, List.getElem?_append_left (by omega), ← List.getD_eq_getElem?_getD, h3, if_pos (by omega)]
      · rw [if_pos (by omega)]; exact h4
      · rw [if_pos (by omega), if_pos (by omega)]; exact h5
section
variable {ops : Array Oper} {rest : List Oper} {o : Oper} {a : Act} {w : World} {Q : Exit → Act → World → Prop}
theorem slice1_ud (hg : o.guard = none) (x : Operand) (ho : o.op = .buildSlice 60 1 #[(0, x)]) (u : Ud)
    (hx : a.eval x = .agg u.cs) (h : wpList Try.prog ops Q rest (a.put o.dst (.slice (some ⟨w.heap.size, 0, none⟩) 1 1)) (w.alloc (.cells u.cs 45))) : wpList Try.prog ops Q (o :: rest) a w := by
  obtain ⟨i0, hi0, hz0, hz1, hz2⟩ := info_parts Try.info45
  refine wpList_buildSlice hg 60 45 1 #[(0, x)] ho u.cs i0 _ Try.underlying60 hi0 hz0 (by rw [hz1]; decide) (by rw [hz1]; decide) ?_ h
  rw [hz1]
  simp only [List.map_toArray, List.map_cons, List.map_nil, hx]
  kernel_rfl
theorem load_udo (hgd : o.guard = none) (x : Operand) (ho : o.op = .load 45 x) (g off : Nat) (u : Ud) (hx : a.eval x = .pointer (some ⟨g, off, none⟩)) (hr : w.rangeAt g off u.cs.toList)
    (h : wpList Try.prog ops Q rest (a.put o.dst (.agg u.cs)) w) : wpList Try.prog ops Q (o :: rest) a w :=
  wpList_load_mid hgd 45 x ho g off hx u.cs.toList _ hr Try.underlying45 rfl (by rw [show u.cs.toList.length = 7 from rfl]; kernel_rfl) (by simpa using h)
end
set_option maxRecDepth 100000 in
set_option maxHeartbeats 8000000 in
theorem walk_HeapBack (n0 : Int) (v : Value) (q1 : Clz) (v2 : Value) (q2 : Clz) (w : World) (hn1 : -9223372036854775808 ≤ n0) (hn2 : n0 ≤ 9223372036854775807) (hq : IsCls w v q1.l ∧ q1.l.length ≤ q1.cap) (hq2 : IsCls w v2 q2.l ∧ q2.l.length ≤ q2.cap) (hz2 : q2.cap * 240 ≤ 140737488351232) :
    Calls Try.prog 4 #[.int .i64 n0, v, v2] w fun e w' => e = .returned (.bool true) ∧ Below w.heap.size w w' := by
  have hz3 : q2.l.length * 240 ≤ 140737488351232 := Nat.le_trans (Nat.mul_le_mul_right _ hq2.2) hz2
  replace hq := hq.1
  replace hq2 := hq2.1
  obtain ⟨cl, hcl⟩ : ∃ cl, cl = q1.l := ⟨_, rfl⟩
  obtain ⟨cl2, hcl2⟩ : ∃ cl2, cl2 = q2.l := ⟨_, rfl⟩
  rw [← hcl] at hq
  rw [← hcl2] at hq2 hz3
  clear hcl hcl2 hz2 q1 q2
  have CAT := Lib.hid hq.at_; have CBD := Lib.hid hq.bd
  obtain ⟨a, c, rfl, -⟩ := CAT.out
  have hl0 := hq.len
  obtain ⟨len, hlen⟩ : ∃ len, len = cl.length := ⟨_, rfl⟩
  have HLN := Lib.hid hlen
  rw [← hlen] at hl0 ⊢
  have LM := Lib.hid (show len ≤ 9223372036854775807 by simp only [maxLen] at hl0; omega)
  have CAT2 := Lib.hid hq2.at_; have CBD2 := Lib.hid hq2.bd
  obtain ⟨a2, c2, rfl, -⟩ := CAT2.out
  have hl2 := hq2.len
  obtain ⟨len2, hlen2⟩ : ∃ len2, len2 = cl2.length := ⟨_, rfl⟩
  have HLN2 := Lib.hid hlen2
  rw [← hlen2] at hl2 hz3 ⊢
  have LZ2 := Lib.hid hz3
  have LX2 := Lib.hid hl2
  have LM2 := Lib.hid (show len2 ≤ 9223372036854775807 by simp only [maxLen] at hl2; omega)
  clear hq hlen hl0 hq2 hlen2 hl2 hz3
  have CA := Lib.hid (awake15_any w)
  go_enter Try.func4, Try.ntmps4
  go_wp2_with fail
  refine CA.out.mono ?_
  rintro e w1 ⟨rfl, hb⟩
  have B1 := Lib.hid hb
  clear hb CA
  have CM := memory_good 32 w1 (by omega) (by omega)
  rw [show ((32 : Nat) : Int) = 32 from rfl] at CM
  have CM := Lib.hid CM
  go_wp2_with fail
  refine CM.out.mono ?_
  rintro e w2 ⟨gs, r, rfl, hS, hb⟩
  have S2 := Lib.hid (show Sh w2 w.heap.size gs r (List.replicate 32 Pg.zero) from ⟨hS.box, hS.row, hS.one, hS.most, Nat.le_trans B1.out.size hS.bg, Nat.le_trans B1.out.size hS.br⟩)
  have B2 := Lib.hid (below_then B1.out hb B1.out.size)
  clear hS hb CM B1
  as_aux_lemma =>
    go_wp2_with fail
    refine (ss_new S2.out B2.out.size).mono ?_
    rintro e w3 ⟨g, b, rfl, hs, hb, -, -⟩
    have V3 := Lib.hid (sv_zero hs)
    have B3 := Lib.hid (below_then B2.out hb B2.out.size)
    clear hs hb S2 B2
    as_aux_lemma =>
      by_cases c32 : (32 : Int) < n0
      · clear V3
        go_wp2
        go_ret
        exact ⟨rfl, B3.out⟩
      by_cases c4 : n0 < 4
      · have CF := Lib.hid (format_bad (g := g) n0 w3 (.inl c4))
        clear V3
        go_wp2_with fail
        refine CF.out.mono ?_
        rintro e w4 ⟨rfl, rfl⟩
        clear CF
        go_wp2
        go_ret
        exact ⟨rfl, B3.out⟩
      obtain ⟨n, rfl⟩ : ∃ n : Nat, n0 = (n : Int) := ⟨n0.toNat, by omega⟩
      have NB := Lib.hid (show 4 ≤ n ∧ n ≤ 32 by omega)
      have CF := Lib.hid (format_good V3.out (by omega) n NB.out.1 (by have := NB.out; omega) (by decide))
      go_wp2_with fail
      refine CF.out.mono ?_
      rintro e w4 ⟨rfl, hs, hg⟩
      have V4 := Lib.hid (show SV w4 w.heap.size g b gs r 32 2 pz (pv (n : Int)) from hs)
      have B4 := Lib.hid (bl_grow B3.out hg (fun k hk => by cases hk; exact V3.out.b_ge) B3.out.size)
      clear hs hg CF V3 B3
      as_aux_lemma =>
        have CK := Lib.hid (make_heap V4.out (n := n) NB.out.2 NB.out.1 (by have := NB.out; omega) (by decide))
        go_wp2_with fail
        refine CK.out.mono ?_
        rintro e w5 ⟨rfl, pg5, hs, hc, hg⟩
        have V5 := Lib.hid hs; have H5 := Lib.hid hc
        have B5 := Lib.hid (bl_grow B4.out hg (fun k hk => by cases hk; exact V4.out.b_ge) B4.out.size)
        clear hs hc hg CK V4 B4 c32 c4 hn1 hn2
        as_aux_lemma =>
          have CD := Lib.hid (land_full V5.out B5.out 0)
          go_wp2_with fail
          refine CD.out.mono ?_
          rintro e w6 ⟨rfl, hs, hb, -⟩
          rw [landed_zero] at hs
          have V6 := Lib.hid hs; have B6 := Lib.hid hb
          clear hs hb CD V5 B5
          as_aux_lemma =>
            go_wp2_with fail
            go_loopw [45] (fun i wr => ∃ (k : Nat) (pg : Nat → Pg) (ch : List Nat) (L : Nat → Nat → Ce), k ≤ len ∧ i = .int .i64 k ∧ SV wr w.heap.size g b gs r 32 0 pg pg ∧ Hc pg n ch L ∧ Below w.heap.size w wr) (fun i _ => len - (intOf i).toNat)
            case atStart => exact ⟨0, pg5, [2], L0, Nat.zero_le _, rfl, V6.out, H5.out, B6.out⟩
            case round =>
              clear V6 H5 B6
              obtain ⟨k, pg, ch, L, hk, rfl, hs, hc, hb⟩ := hrel
              have V := Lib.hid hs; have HC := Lib.hid hc; have BW := Lib.hid hb
              clear hs hc hb
              by_cases hlt : k < len
              · have HLT := Lib.hid hlt
                have hkb : k < 9223372036854775807 := by have := LM.out; omega
                have hkc : k < cl.length := by rw [← HLN.out]; exact hlt
                obtain ⟨cc, hcc⟩ : ∃ cc, cc = cl[k] := ⟨_, rfl⟩
                have OK := Lib.hid ((CBD.out _ (List.getElem_mem hkc)).below BW.out (Nat.le_refl _))
                obtain ⟨a', c', e1, hat⟩ := CAT.out.below BW.out
                obtain ⟨b1, off, e2, hb1, hra⟩ := hat (by omega)
                rw [← HLN.out] at e1
                obtain ⟨rfl, rfl⟩ : a = some ⟨b1, off, none⟩ ∧ c = c' := by rw [e2] at e1; simpa using e1
                have RK := Lib.hid (hra k cl[k] (List.getElem?_eq_getElem hkc))
                rw [← hcc] at OK RK
                clear e1 hat e2 hb1 hra hcc hkc
                have V1 := Lib.hid (V.out.alloc (.cells cc.cs 42))
                have B1 := Lib.hid (BW.out.alloc BW.out.size (.cells cc.cs 42))
                have K1 := Lib.hid (Bk.new wr 42 cc.cs)
                have O1 := Lib.hid (OK.out.below ((Below.refl w.heap.size wr).alloc BW.out.size (.cells cc.cs 42)) (Nat.le_refl _))
                clear V BW
                as_aux_lemma =>
                  go_upto_region 12 with (first | (refine load_cl_off rfl _ rfl b1 off k cc rfl RK.out ?_) | (refine store_cl_new rfl _ _ rfl cc OK.out.sl rfl rfl ?_))
                  generalize wr.alloc (.cells cc.cs 42) = w7 at *
                  clear OK RK
                  obtain ⟨G, hG⟩ : ∃ G, G = wr.heap.size := ⟨_, rfl⟩
                  rw [← hG] at K1 ⊢
                  clear hG
                  have CO := Lib.hid (do_any V1.out (n := n) NB.out.2 HC.out B1.out cc O1.out)
                  clear V1 HC B1 O1
                  as_aux_lemma =>
                    go_wp2_with (refine load_cl rfl _ rfl G cc rfl K1.out ?_)
                    refine CO.out.mono ?_
                    rintro e w8 ⟨u, er, pg', ch', L', rfl, hs, hc, -, hb, -⟩
                    have V8 := Lib.hid hs; have H8 := Lib.hid hc; have B8 := Lib.hid hb
                    clear hs hc hb CO K1
                    go_wp2
                    go_roundw
                    case rel => exact ⟨k + 1, pg', ch', L', by have := HLT.out; omega, by go_num, V8.out, H8.out, B8.out⟩
                    case measure => have := HLT.out; simp [intOf]; omega
              · obtain rfl : k = len := by omega
                clear hlt hk CAT CBD
                have CLS := Lib.hid (list_any V.out (n := n) NB.out.2 HC.out)
                as_aux_lemma =>
                  go_wp2_with fail
                  refine CLS.out.mono ?_
                  rintro e w2 ⟨x, l, rfl, hl, h6, ho, hb⟩
                  obtain ⟨xa, xc, rfl⟩ := ow_slice ho
                  have V2 := Lib.hid (V.out.kept hb); have B2 := Lib.hid (below_then BW.out hb BW.out.size); have LP := Lib.hid hl; have OW := Lib.hid ho; have M6 := Lib.hid h6
                  have GE := Lib.hid V.out.gs_ne
                  obtain ⟨PB, hPB⟩ : ∃ PB, PB = wr.heap.size := ⟨_, rfl⟩
                  have SZP := Lib.hid (show w.heap.size ≤ PB ∧ PB ≤ w2.heap.size by rw [hPB]; exact ⟨BW.out.size, hb.size⟩)
                  rw [← hPB] at OW GE
                  clear hl h6 ho hb CLS V BW hPB
                  as_aux_lemma =>
                    go_wp2_with fail
                    go_loopw [14, 63] (fun xs i wr => ∃ (k : Nat) (pg' : Nat → Pg) (ch' : List Nat) (S : Nat → Nat → Nat → Ce) (us : List Ud), k ≤ len2 ∧ i = .int .i64 k ∧ SV wr w.heap.size g b gs r 32 0 pg' pg' ∧ Hc pg' n ch' (S us.length) ∧ S 0 = L ∧ Tr n S us ∧ us.length ≤ k ∧ wr.ownsRow PB 45 7 xs us.length (uL us) ∧ wr.ownsRow PB 57 3 (.slice xa l.length xc) l.length (pairL l) ∧ Below w.heap.size w wr ∧ PB ≤ wr.heap.size) (fun _ i _ => len2 - (intOf i).toNat)
                    case atStart => exact ⟨0, pg, ch, fun _ => L, [], Nat.zero_le _, rfl, V2.out, HC.out, rfl, Tr.nil n L, Nat.le_refl _, World.ownsRow_nil _ _ _ _, OW.out, B2.out, SZP.out.2⟩
                    case round =>
                      clear V2 B2 OW HC
                      obtain ⟨k, pg', ch', S, us, hk, rfl, hs, hc, hS0, htr, hul, hu, hp, hb, hpb⟩ := hrel
                      obtain ⟨ua, uc, rfl⟩ := ow_slice hu
                      have V := Lib.hid hs; have HC := Lib.hid hc; have BW := Lib.hid hb; have S0 := Lib.hid hS0; have TR := Lib.hid htr; have UO := Lib.hid hu; have PO := Lib.hid hp; have PS := Lib.hid hpb
                      obtain ⟨ul, hulen⟩ : ∃ ul, ul = us.length := ⟨_, rfl⟩
                      have UL := Lib.hid hulen
                      rw [← hulen] at hul ⊢
                      have UK := Lib.hid hul
                      clear hs hc hb hS0 htr hu hp hpb hulen hul
                      by_cases hlt : k < len2
                      · have HLT := Lib.hid hlt
                        have hkb : k < 9223372036854775807 := by have := LM2.out; omega
                        have hkc : k < cl2.length := by rw [← HLN2.out]; exact hlt
                        obtain ⟨cc, hcc⟩ : ∃ cc, cc = cl2[k] := ⟨_, rfl⟩
                        have OK := Lib.hid ((CBD2.out _ (List.getElem_mem hkc)).below BW.out (Nat.le_refl _))
                        obtain ⟨a', c', e1, hat⟩ := CAT2.out.below BW.out
                        obtain ⟨b1, off, e2, hb1, hra⟩ := hat (by omega)
                        rw [← HLN2.out] at e1
                        obtain ⟨rfl, rfl⟩ : a2 = some ⟨b1, off, none⟩ ∧ c2 = c' := by rw [e2] at e1; simpa using e1
                        have RK := Lib.hid (hra k cl2[k] (List.getElem?_eq_getElem hkc))
                        rw [← hcc] at OK RK
                        clear e1 hat e2 hb1 hra hcc hkc
                        have V1 := Lib.hid (V.out.alloc (.cells cc.cs 42))
                        have B1 := Lib.hid (BW.out.alloc BW.out.size (.cells cc.cs 42))
                        have K1 := Lib.hid (Bk.new wr 42 cc.cs)
                        have U1 := Lib.hid (UO.out.alloc (.cells cc.cs 42)); have P1 := Lib.hid (PO.out.alloc (.cells cc.cs 42))
                        have PS1 := Lib.hid (show PB ≤ (wr.alloc (.cells cc.cs 42)).heap.size from Nat.le_trans PS.out (by simp))
                        have O1 := Lib.hid (OK.out.below ((Below.refl w.heap.size wr).alloc BW.out.size (.cells cc.cs 42)) (Nat.le_refl _))
                        clear V BW UO PO PS
                        as_aux_lemma =>
                          go_upto_region 21 with (first | (refine load_cl_off rfl _ rfl b1 off k cc rfl RK.out ?_) | (refine store_cl_new rfl _ _ rfl cc OK.out.sl rfl rfl ?_))
                          generalize wr.alloc (.cells cc.cs 42) = w7 at *
                          clear OK RK
                          obtain ⟨G, hG⟩ : ∃ G, G = wr.heap.size := ⟨_, rfl⟩
                          rw [← hG] at K1 ⊢
                          clear hG
                          have CO := Lib.hid (do_any V1.out (n := n) NB.out.2 HC.out B1.out cc O1.out)
                          clear V1 B1 O1
                          as_aux_lemma =>
                            go_upto_region 21 with fail
                            go_wp2_with (refine load_cl rfl _ rfl G cc rfl K1.out ?_)
                            refine CO.out.mono ?_
                            rintro e w8 ⟨u, er, pg2, ch2, L2, rfl, hs, hc, hd, hb, hoth⟩
                            have V9 := Lib.hid (hs.alloc (.cells u.cs 45)); have H9 := Lib.hid hc; have B9 := Lib.hid (hb.alloc hb.size (.cells u.cs 45))
                            have U9 := Lib.hid ((ow_oth U1.out hoth GE.out.2.1 GE.out.2.2.2).alloc (.cells u.cs 45))
                            have P9 := Lib.hid ((ow_oth P1.out hoth GE.out.2.1 GE.out.2.2.2).alloc (.cells u.cs 45))
                            have PS9 := Lib.hid (show PB ≤ (w8.alloc (.cells u.cs 45)).heap.size from Nat.le_trans PS1.out (Nat.le_trans hoth.1 (by simp)))
                            have K9 := Lib.hid (Bk.new w8 45 u.cs)
                            obtain ⟨W, hW⟩ : ∃ W, W = w8.heap.size := ⟨_, rfl⟩
                            rw [← hW] at K9
                            have HW := Lib.hid hW
                            clear hs hc hb hoth CO K1 U1 P1 PS1 hW
                            rcases hd with ⟨hL2, hu0⟩ | ⟨her, p, s, c, hs6, hpn, hu, hL2, hcst⟩
                            · have y0 : ∀ w', w' = w8.alloc (.cells u.cs 45) → w'.cell? ⟨W, 0, none⟩ = some (.int .i64 0) := fun w' e => by rw [e, K9.out.cell, hu0]; rfl
                              have H9' := Lib.hid (show Hc pg2 n ch2 (S us.length) from by rw [← UL.out]; rw [← UL.out] at hL2; rw [← hL2]; exact H9.out)
                              have Y0 := Lib.hid y0
                              clear hL2 hu0 y0 H9 HC K9
                              as_aux_lemma =>
                                go_upto_region 22 with (refine store_ud_new rfl _ _ rfl u rfl rfl ?_; rw [← HW.out]; have y0 := Y0.out _ rfl; clear HW Y0; generalize w8.alloc (.cells u.cs 45) = w9 at *)
                                by_cases he : er = 0
                                · subst he
                                  go_wp2
                                  go_roundw
                                  case rel => exact ⟨k + 1, pg2, ch2, S, us, by have := HLT.out; omega, by go_num, V9.out, H9'.out, S0.out, TR.out, by have := UK.out; have := UL.out; omega, by rw [← UL.out] at U9 ⊢; exact U9.out, P9.out, B9.out, PS9.out⟩
                                  case measure => have := HLT.out; simp [intOf]; omega
                                · have heb : (er == 0) = false := by simp [he]
                                  go_wp2
                                  go_roundw
                                  case rel => exact ⟨k + 1, pg2, ch2, S, us, by have := HLT.out; omega, by go_num, V9.out, H9'.out, S0.out, TR.out, by have := UK.out; have := UL.out; omega, by rw [← UL.out] at U9 ⊢; exact U9.out, P9.out, B9.out, PS9.out⟩
                                  case measure => have := HLT.out; simp [intOf]; omega
                            · subst her
                              obtain ⟨i0, hi, hz0, hz1, hz2⟩ := info_parts Try.info45
                              have uk : u.k = 1 := by rw [hu]; rfl
                              have Y0 := Lib.hid (show ∀ w', w' = w8.alloc (.cells u.cs 45) → w'.cell? ⟨W, 0, none⟩ = some (.int .i64 1) from fun w' e => by rw [e, K9.out.cell]; show some (Value.int .i64 u.k) = _; rw [uk])
                              obtain ⟨S2, hS2⟩ : ∃ S2 : Nat → Nat → Nat → Ce, S2 = fun i => if i ≤ us.length then S i else putL (S us.length) p s c := ⟨_, rfl⟩
                              have htr := TR.out.snoc p s c hs6 hpn (HC.out.cok p hs6) hcst
                              rw [← hu, ← hS2] at htr
                              have TR2 := Lib.hid htr
                              have e1 : S2 (us ++ [u]).length = L2 := by rw [hS2, hL2]; exact if_neg (by simp)
                              have H9' := Lib.hid (show Hc pg2 n ch2 (S2 (us ++ [u]).length) from by rw [e1]; exact H9.out)
                              have S02 := Lib.hid (show S2 0 = L from by rw [hS2]; exact S0.out)
                              clear htr e1 hS2
                              rw [← UL.out] at U9
                              have UA := Lib.hid (U9.out.alloc (.cells u.cs 45)); have PA := Lib.hid (P9.out.alloc (.cells u.cs 45))
                              have VA := Lib.hid (V9.out.alloc (.cells u.cs 45)); have BA := Lib.hid (B9.out.alloc B9.out.size (.cells u.cs 45))
                              have PSA := Lib.hid (show PB ≤ ((w8.alloc (.cells u.cs 45)).alloc (.cells u.cs 45)).heap.size from Nat.le_trans PS9.out (by simp))
                              have ULB := Lib.hid (show ul + 1 ≤ maxLen by have := UK.out; have := HLT.out; have := LX2.out; omega)
                              have EL := Lib.hid (show ul + 1 = (us ++ [u]).length by rw [List.length_append, ← UL.out]; rfl)
                              have EU := Lib.hid (show uL us ++ u.cs.toList = uL (us ++ [u]) from (uL_app us u).symm)
                              have EK := Lib.hid (show (us ++ [u]).length ≤ k + 1 by have := UK.out; rw [← EL.out]; omega)
                              clear hL2 hu hcst hs6 hpn uk H9 HC U9 P9 V9 B9 PS9
                              as_aux_lemma =>
                                go_upto_region 22 with (refine store_ud_new rfl _ _ rfl u rfl rfl ?_; rw [← HW.out]; have y0 := Y0.out _ rfl; clear HW Y0; generalize w8.alloc (.cells u.cs 45) = w9 at *)
                                go_upto_region 23 with fail
                                clear y0
                                go_wp2_with (first
                                  | (refine load_ud rfl _ rfl W u rfl K9.out ?_)
                                  | (refine slice1_ud rfl _ rfl u rfl ?_)
                                  | (at_builtin; refine wpList_append_one _ rfl _ _ 60 rfl PB 45 i0 (.agg ud0.cs) 7 72 Try.underlying60 hi hz0 hz1 hz2 rfl (.slice ua ul uc) ul (uL us) rfl UA.out ⟨w9.heap.size, 0, none⟩ 1 u.cs.toList rfl rfl ?qc2 ?qc3 ?qc4 (by omega) ?qc5 ?qc6 ?_))
                                case qc2 =>
                                  intro q x hx
                                  have hn := (Bk.new w9 45 u.cs).cell q
                                  rw [Addr.add_lit, Nat.zero_add]
                                  refine Eq.trans hn ?_
                                  simpa using hx
                                case qc3 => simp [Ud.cs, Value.oneCell']
                                case qc4 => exact ULB.out
                                case qc5 => have := UK.out; have := HLT.out; have := LZ2.out; omega
                                case qc6 => exact PSA.out
                                intro v' w5 hown hgrow
                                obtain ⟨ia, ic, rfl⟩ := ow_slice hown
                                have V5 := Lib.hid (VA.out.grown hgrow (fun k hk => by have := (ow_blk UA.out hk).1; have := GE.out; omega))
                                have P5 := Lib.hid (ow_same PA.out (fun k hk => hgrow.block k (ow_blk PA.out hk).2.1 (fun e => ow_apart PA.out UA.out (by decide) k hk e.symm)))
                                have B5 := Lib.hid (bl_grow BA.out hgrow (fun k hk => by have := (ow_blk UA.out hk).1; have := SZP.out; omega) BA.out.size)
                                have S5 := Lib.hid (Nat.le_trans PSA.out hgrow.size)
                                have U5 := Lib.hid hown
                                clear hown hgrow VA PA BA UA PSA K9
                                go_wp2
                                go_roundw
                                case rel => exact ⟨k + 1, pg2, ch2, S2, us ++ [u], by have := HLT.out; omega, by go_num, V5.out, H9'.out, S02.out, TR2.out, EK.out, by rw [← EU.out, ← EL.out]; exact U5.out, P5.out, B5.out, S5.out⟩
                                case measure => have := HLT.out; simp [intOf]; omega
                      · obtain rfl : k = len2 := by omega
                        have ub : ul ≤ 9223372036854775807 := by have := UK.out; have := LM2.out; omega
                        have ULX := Lib.hid (show ul ≤ maxLen by have := UK.out; have := LX2.out; omega)
                        rw [← UL.out] at UO HC
                        clear hlt hk CAT2 CBD2
                        as_aux_lemma =>
                          go_wp2_with fail
                          go_loopw [19] (fun j wr => ∃ (t : Nat) (pg2 : Nat → Pg) (ch2 : List Nat), t ≤ ul ∧ j = .int .i64 ((t : Int) - 1) ∧ SV wr w.heap.size g b gs r 32 (ul - t) pg' pg2 ∧ Hc pg2 n ch2 (S t) ∧ wr.ownsRow PB 45 7 (.slice ua ul uc) ul (uL us) ∧ wr.ownsRow PB 57 3 (.slice xa l.length xc) l.length (pairL l) ∧ Below w.heap.size w wr) (fun j _ => (intOf j + 1).toNat)
                          case atStart => exact ⟨ul, pg', ch', Nat.le_refl _, rfl, by rw [Nat.sub_self]; exact V.out, HC.out, UO.out, PO.out, BW.out⟩
                          case round =>
                            clear V HC UO PO BW
                            obtain ⟨t, pg2, ch2, ht, rfl, hs, hc, hu, hp, hb⟩ := hrel
                            by_cases t0 : 0 < t
                            · obtain ⟨q, rfl⟩ : ∃ q, t = q + 1 := ⟨t - 1, by omega⟩
                              rw [show ((q + 1 : Nat) : Int) - 1 = (q : Int) by omega]
                              have HQ := Lib.hid ht
                              obtain ⟨p, s, c, hs6, hpn, hud, hok, hst, hc0⟩ := TR.out.at_ q (by rw [← UL.out]; omega)
                              have hm : p ∈ ch2 := Classical.byContradiction fun hx => by
                                have h1 := hc.out hx s
                                rw [hst, putL_at] at h1
                                rw [h1] at hc0
                                exact hc0 rfl
                              obtain ⟨g2, cap2, e2, hr2⟩ := undo_at (by rw [← UL.out]; exact hu) q (by rw [← UL.out]; omega)
                              rw [hud] at hr2
                              rw [← UL.out] at e2
                              obtain ⟨rfl, rfl⟩ : ua = some ⟨g2, 0, none⟩ ∧ uc = cap2 := by simpa using e2
                              have RK := Lib.hid hr2
                              have hq1 : q < ul := by omega
                              have hqb : (q : Int) < (ul : Int) := by omega
                              have hqn : ¬ (q : Int) < 0 := by omega
                              have hc2 := hc.lay hm hs6 (S q p s) hok
                              rw [show putL (S (q + 1)) p s (S q p s) = S q from by rw [hst]; exact putL_back _ _ _ _] at hc2
                              have HC2 := Lib.hid hc2
                              have CR := Lib.hid (restore_any hs p (by have := NB.out; omega) s hs6 (hc.pok hm) (S q p s) hok (by have := ULX.out; omega))
                              have UO := Lib.hid hu; have PO := Lib.hid hp; have BW := Lib.hid hb
                              have BBG := Lib.hid hs.b_ge
                              obtain ⟨cc, hcc⟩ : ∃ cc, cc = S q p s := ⟨_, rfl⟩
                              rw [← hcc] at RK CR HC2
                              clear hs hc hu hp hb hr2 hc2 e2 hst hud hok hc0 hm hcc
                              as_aux_lemma =>
                                go_wp2_with (refine load_udo rfl _ rfl g2 (q * 7) (udC p s cc) rfl RK.out ?_)
                                refine CR.out.mono ?_
                                rintro e w8 ⟨rfl, hs, hg⟩
                                have V8 := Lib.hid (show SV w8 w.heap.size g b gs r 32 (ul - q) pg' _ from by rw [show ul - q = ul - (q + 1) + 1 by omega]; exact hs)
                                have U8 := Lib.hid (ow_grown UO.out hg (fun j hj => by cases hj; exact GE.out.2.1)); have P8 := Lib.hid (ow_grown PO.out hg (fun j hj => by cases hj; exact GE.out.2.1))
                                have B8 := Lib.hid (bl_grow BW.out hg (fun j hj => by cases hj; exact BBG.out) BW.out.size)
                                clear hs hg CR UO PO BW RK
                                go_wp2
                                go_roundw
                                case rel => exact ⟨q, _, ch2, by have := HQ.out; omega, by first | rfl | go_num, V8.out, HC2.out, U8.out, P8.out, B8.out⟩
                                case measure => simp [intOf]
                            · obtain rfl : t = 0 := by omega
                              rw [show ((0 : Nat) : Int) - 1 = -1 by omega]
                              have V := Lib.hid hs; have BW := Lib.hid hb; have PO := Lib.hid hp
                              rw [S0.out] at hc
                              have CLS := Lib.hid (list_any hs (n := n) NB.out.2 hc)
                              clear hs hc hu hp hb
                              as_aux_lemma =>
                                go_wp2_with fail
                                refine CLS.out.mono ?_
                                rintro e w9 ⟨x, l2, rfl, hl2, h62, ho2, hb2⟩
                                obtain rfl : l2 = l := hl2.eq LP.out
                                have CS := Lib.hid (same_any (ow_kept PO.out hb2) ho2 h62)
                                have B9 := Lib.hid (below_then BW.out hb2 BW.out.size)
                                clear hl2 h62 ho2 hb2 CLS V BW PO
                                go_wp2_with fail
                                refine CS.out.mono ?_
                                rintro e w10 ⟨rfl, hb3⟩
                                have B10 := Lib.hid (below_then B9.out hb3 B9.out.size)
                                clear hb3 CS B9
                                go_wp2
                                go_ret
                                exact ⟨rfl, B10.out⟩
end Go.Proofs.Ytdhfcjplnbnkdaa
