/- SpaceOwns. -/
import Derived.Test.YteccaickdjbndaaSpcLo
import Derived.Deep.CutBlock
import Derived.Deep.DeepCutAuto
set_option linter.unusedVariables false
set_option linter.unusedSimpArgs false
namespace Go.Proofs.Yteccaickdjbndaa
open Go.RowKit Go.Maps

theorem zeroInt (w : World) : (zeroValue 3).run Try.prog w = .ok (.int .i64 0) w := by kernel_rfl
/-- Who has which page, as a map of ints. -/
def ownI (ow : Nat → Option Int) : Int → Option Value := fun x => if 0 ≤ x then (ow x.toNat).map (Value.int .i64) else none
theorem ownI_put (ow : Nat → Option Int) (x : Nat) (s : Int) : fput (keyI (ownI ow)) (.int .i64 (x : Int)) (.int .i64 s) = keyI (ownI (Go.Proofs.Yteccaickdjbndaa.put ow x (some s))) := by
  rw [keyI_put]
  congr 1
  funext y
  unfold ownI Go.Proofs.Yteccaickdjbndaa.put
  by_cases e : y = (x : Int)
  · subst e; rw [if_pos rfl, if_pos (by omega), Int.toNat_natCast, if_pos rfl]; rfl
  · rw [if_neg e]
    by_cases hy : 0 ≤ y
    · rw [if_pos hy, if_pos hy, if_neg (show ¬ y.toNat = x by omega)]
    · rw [if_neg hy, if_neg hy]
theorem ownI_at (ow : Nat → Option Int) (x : Nat) : keyI (ownI ow) (.int .i64 (x : Int)) = (ow x).map (Value.int .i64) := by
  show (if 0 ≤ (x : Int) then (ow (x : Int).toNat).map (Value.int .i64) else none) = _
  rw [if_pos (by omega), Int.toNat_natCast]
theorem ownI_0 : fput (fput (fun _ => none) (.int .i64 0) (.int .i64 0)) (.int .i64 1) (.int .i64 0) = keyI (ownI ow0) := by
  rw [show (fun _ : Lit => (none : Option Value)) = keyI (fun _ => none) from by funext kl; cases kl with | int q x => cases q <;> rfl | _ => rfl]
  rw [keyI_put, keyI_put]
  congr 1
  funext y
  unfold ownI ow0
  by_cases h1 : y = 1
  · subst h1; rfl
  · by_cases h0 : y = 0
    · subst h0; rfl
    · rw [if_neg h1, if_neg h0]
      by_cases hy : 0 ≤ y
      · rw [if_pos hy, if_neg (show ¬ y.toNat < 2 by omega)]; rfl
      · rw [if_neg hy]
def Tot (ow : Nat → Option Int) (n : Nat) : Prop := ∀ i, n ≤ i → ow i = none
theorem Tot.put {ow : Nat → Option Int} {n : Nat} (h : Tot ow n) {id : Nat} (hid : id < n) (x : Option Int) : Tot (Go.Proofs.Yteccaickdjbndaa.put ow id x) n := fun i hi => by
  rw [put_ne _ _ (by omega)]; exact h i hi
theorem Tot.owF {ow : Nat → Option Int} {n : Nat} (h : Tot ow n) (s : Int) : Tot (owF ow s) n := fun i hi => by
  unfold Go.Proofs.Yteccaickdjbndaa.owF
  rw [h i hi]; simp
theorem owL_le (ow : Nat → Option Int) (n : Nat) : (owL ow n).length ≤ n := by
  unfold owL
  rw [List.length_map]
  exact Nat.le_trans (List.length_filter_le _ _) (by simp)
theorem owL_mem {ow : Nat → Option Int} {n : Nat} (ht : Tot ow n) (x : Int) : x ∈ owL ow n ↔ (ownI ow x).isSome = true := by
  unfold owL ownI
  rw [List.mem_map]
  constructor
  · rintro ⟨i, hi, rfl⟩
    rw [List.mem_filter] at hi
    rw [if_pos (by omega), Int.toNat_natCast, Option.isSome_map]
    exact hi.2
  · intro h
    by_cases hx : 0 ≤ x
    · rw [if_pos hx, Option.isSome_map] at h
      refine ⟨x.toNat, List.mem_filter.2 ⟨List.mem_range.2 ?_, h⟩, by omega⟩
      refine Nat.lt_of_not_le fun hh => ?_
      rw [ht _ hh] at h; cases h
    · rw [if_neg hx] at h; cases h
theorem owL_nodup (ow : Nat → Option Int) (n : Nat) : (owL ow n).Nodup := by
  unfold owL
  rw [List.nodup_iff_pairwise_ne, List.pairwise_map]
  have := (List.nodup_iff_pairwise_ne.1 (List.nodup_range (n := n))).filter fun i => (ow i).isSome
  exact this.imp fun h e => h (by omega)
theorem owL_put {ow : Nat → Option Int} {n id : Nat} (hid : id < n) (ho : ow id = none) (x : Int) : (owL ow n).length + 1 ≤ (owL (Go.Proofs.Yteccaickdjbndaa.put ow id (some x)) n).length := by
  have := nodup_len_le ((id : Int) :: owL ow n) (owL (Go.Proofs.Yteccaickdjbndaa.put ow id (some x)) n) (by
    rw [List.nodup_cons]
    refine ⟨fun h => ?_, owL_nodup _ _⟩
    unfold owL at h
    obtain ⟨i, hi, e⟩ := List.mem_map.1 h
    rw [List.mem_filter] at hi
    obtain rfl : i = id := by omega
    rw [ho] at hi; exact absurd hi.2 (by decide)) (fun y hy => by
    unfold owL
    rcases List.mem_cons.1 hy with rfl | hy
    · exact List.mem_map.2 ⟨id, List.mem_filter.2 ⟨List.mem_range.2 hid, by rw [put_at]; rfl⟩, rfl⟩
    · unfold owL at hy
      obtain ⟨i, hi, rfl⟩ := List.mem_map.1 hy
      rw [List.mem_filter] at hi
      refine List.mem_map.2 ⟨i, List.mem_filter.2 ⟨hi.1, ?_⟩, rfl⟩
      rw [put_ne _ _ (fun e => by rw [e, ho] at hi; exact absurd hi.2 (by decide))]
      exact hi.2)
  simpa using this
theorem owL_two {ow : Nat → Option Int} {n : Nat} (hn : 2 ≤ n) (h0 : (ow 0).isSome = true) (h1 : (ow 1).isSome = true) : 2 ≤ (owL ow n).length := by
  have := nodup_len_le [(0 : Int), 1] (owL ow n) (by decide) (fun y hy => by
    unfold owL
    rcases List.mem_cons.1 hy with rfl | hy
    · exact List.mem_map.2 ⟨0, List.mem_filter.2 ⟨List.mem_range.2 (by omega), h0⟩, rfl⟩
    · rcases List.mem_cons.1 hy with rfl | hy
      · exact List.mem_map.2 ⟨1, List.mem_filter.2 ⟨List.mem_range.2 (by omega), h1⟩, rfl⟩
      · cases hy)
  simpa using this
section
variable {P : Program} (w : World) {ops : Array Oper} {rest : List Oper} {o : Oper} {a : Act} {Q : Exit → Act → World → Prop}
theorem wpList_mp_insert (hg : o.guard = none) (m x v : Operand) (t : TypeId) (hop : o.op = Op.insert t m x v) (k e : TypeId) (K : Keyed P k) (ht : P.underlying t = some (.map k e)) (b n : Nat) (f : Lit → Option Value)
    (hm : a.eval m = .map (some b)) (hown : Mp w P k b n f) (hn : n < maxLen) (key val : Value) (kl : Lit) (hx : a.eval x = key) (hv : a.eval v = val) (hkey : keyOf P k key = some kl)
    (hK : ∀ w', Mp w' P k b (n + 1) (fput f kl val) → w.grownBy w' (some b) → wpList P ops Q rest (a.put o.dst undef) w') : wpList P ops Q (o :: rest) a w := by
  refine wpList_plain hg fun K' hK' => ?_
  obtain ⟨w', hrun, r1, r2⟩ := hown.store K ht hn val hkey
  unfold Oper.wp
  simp [execOp, hop, hm, hx, hv, hrun, Result.andThen]
  exact hK' _ _ (hK w' r1 r2)
end
theorem MpR.congr {w : World} {P : Program} {k : TypeId} {b r n cnt : Nat} {f g : Lit → Option Value} {left : Lit → Bool} (h : MpR w P k b r n f left cnt) (e : f = g) : MpR w P k b r n g left cnt := e ▸ h
/-- While the map is ranged over: what has been met has been looked at. -/
def midI (ow : Nat → Option Int) (s : Int) (left : Lit → Bool) : Int → Option Value := fun x => cond (left (.int .i64 x)) (ownI ow x) (ownI (owF ow s) x)
theorem midI_start (ow : Nat → Option Int) (s : Int) {left : Lit → Bool} (h : ∀ kl, WideAt.IsKeyLit kl → left kl = (keyI (ownI ow) kl).isSome) : ownI ow = midI ow s left := by
  funext x
  unfold midI
  cases hl : left (.int .i64 x) with
  | true => rfl
  | false =>
    rw [h (.int .i64 x) trivial] at hl
    have hn : ownI ow x = none := by
      cases ho : ownI ow x with
      | none => rfl
      | some v => rw [keyI_at, ho] at hl; cases hl
    show ownI ow x = ownI (owF ow s) x
    rw [hn]
    unfold ownI at hn ⊢
    unfold owF
    by_cases hx : 0 ≤ x
    · rw [if_pos hx] at hn ⊢
      cases ho : ow x.toNat with
      | none => simp
      | some y => rw [ho] at hn; cases hn
    · rw [if_neg hx]
theorem midI_end (ow : Nat → Option Int) (s : Int) {left : Lit → Bool} (h : ∀ kl, left kl = false) : midI ow s left = ownI (owF ow s) := by
  funext x
  unfold midI
  rw [h]; rfl
theorem left_at (left : Lit → Bool) (x y : Int) : (left (.int .i64 y) && !(Lit.int .i64 y).sameKey (.int .i64 x)) = if y = x then false else left (.int .i64 y) := by
  by_cases e : y = x
  · subst e; simp [Lit.sameKey]
  · simp [Lit.sameKey, e]
theorem midI_stay (ow : Nat → Option Int) (s : Int) (left : Lit → Bool) {x : Int} (hx : ow x.toNat ≠ some s) : midI ow s left = midI ow s (fun z => left z && !z.sameKey (.int .i64 x)) := by
  funext y
  unfold midI
  dsimp only
  rw [left_at]
  by_cases e : y = x
  · subst e
    rw [if_pos rfl]
    have : ownI (owF ow s) y = ownI ow y := by
      unfold ownI owF
      rw [if_neg (show ¬ (2 ≤ y.toNat ∧ ow y.toNat = some s) from fun h => hx h.2)]
    rw [this]
    cases left (.int .i64 y) <;> rfl
  · rw [if_neg e]
theorem midI_del (ow : Nat → Option Int) (s : Int) (left : Lit → Bool) {x : Int} (h2 : 2 ≤ x.toNat) (hx : ow x.toNat = some s) : fdel (keyI (midI ow s left)) (.int .i64 x) = keyI (midI ow s (fun z => left z && !z.sameKey (.int .i64 x))) := by
  rw [keyI_del]
  congr 1
  funext y
  unfold midI
  dsimp only
  rw [left_at]
  by_cases e : y = x
  · subst e
    rw [if_pos rfl, if_pos rfl]
    show none = ownI (owF ow s) y
    unfold ownI owF
    rw [if_pos (show (2 ≤ y.toNat ∧ ow y.toNat = some s) from ⟨h2, hx⟩)]
    split <;> rfl
  · rw [if_neg e, if_neg e]
theorem put_put {α : Type} (f : Nat → α) (j : Nat) (x y : α) : Go.Proofs.Yteccaickdjbndaa.put (Go.Proofs.Yteccaickdjbndaa.put f j x) j y = Go.Proofs.Yteccaickdjbndaa.put f j y := by
  funext i
  unfold Go.Proofs.Yteccaickdjbndaa.put
  split <;> rfl
/-- The state between the calls of the law. -/
structure OS (wr w : World) (g b gs r F n : Nat) (bd : Bool) : Prop where
  ex : ∃ (pg : Nat → Pg) (st : Nat → Int) (kd rt : Nat → Nat) (ow : Nat → Option Int) (m : Nat), SV wr w.heap.size g b gs r 64 0 pg pg ∧ Vol pg n st kd rt ow ∧ Tot ow n ∧ Mp wr Try.prog 3 F m (keyI (ownI ow)) ∧ (bd = true → m ≤ (owL ow n).length)
  fs : F < wr.heap.size
  bel : Below w.heap.size w wr
theorem OS.kept {wr w w' : World} {g b gs r F n : Nat} {bd : Bool} (h : OS wr w g b gs r F n bd) (hb : Below wr.heap.size wr w') : OS w' w g b gs r F n bd := by
  obtain ⟨⟨pg, st, kd, rt, ow, m, h1, h2, h3, h4, h5⟩, h6, h7⟩ := h
  exact ⟨⟨pg, st, kd, rt, ow, m, h1.kept hb, h2, h3, h4.kept hb, h5⟩, Nat.lt_of_lt_of_le h6 hb.size, below_then h7 hb h7.size⟩
theorem OS.weak {wr w : World} {g b gs r F n : Nat} {bd : Bool} (h : OS wr w g b gs r F n bd) : OS wr w g b gs r F n false := by
  obtain ⟨⟨pg, st, kd, rt, ow, m, h1, h2, h3, h4, h5⟩, h6, h7⟩ := h
  exact ⟨⟨pg, st, kd, rt, ow, m, h1, h2, h3, h4, fun h => by cases h⟩, h6, h7⟩
theorem land_os {wr w : World} {g b gs r F n : Nat} {bd : Bool} (h : OS wr w g b gs r F n bd) (hF : F ≠ g ∧ F ≠ b ∧ F ≠ gs ∧ F ≠ r ∧ w.heap.size ≤ F) (er : Int) :
    Calls Try.prog 11 #[.pointer (some ⟨gs, 0, none⟩), .pointer (some ⟨g, 0, none⟩), .int .i64 er] wr fun e w' => e = .returned (.tuple #[]) ∧ OS w' w g b gs r F n bd := by
  obtain ⟨⟨pg, st, kd, rt, ow, m, h1, h2, h3, h4, h5⟩, h6, h7⟩ := h
  refine (land_full h1 h7 er).mono ?_
  rintro e w' ⟨rfl, hs, hb, ho⟩
  rw [landed_same] at hs
  exact ⟨rfl, ⟨pg, st, kd, rt, ow, m, hs, h2, h3, h4.of_block (ho.2 F h6 hF.2.1 hF.2.2.2.1), h5⟩, Nat.lt_of_lt_of_le h6 ho.1, hb⟩

set_option maxRecDepth 100000 in
set_option maxHeartbeats 8000000 in
theorem walk_SpaceOwns (n0 : Int) (v1 : Value) (q1 : Slq) (v2 : Value) (q2 : Slq) (w : World) (hn1 : -9223372036854775808 ≤ n0) (hn2 : n0 ≤ 9223372036854775807) (hq1 : v1 = .slice q1.a q1.len q1.cap ∧ q1.len ≤ q1.cap ∧ q1.cap ≤ maxLen ∧ ∃ f : Nat → Int, Row w w.heap.size .i64 v1 q1.len f ∧ ∀ i, i < q1.len → -9223372036854775808 ≤ f i ∧ f i ≤ 9223372036854775807) (hq2 : v2 = .slice q2.a q2.len q2.cap ∧ q2.len ≤ q2.cap ∧ q2.cap ≤ maxLen ∧ ∃ f : Nat → Int, Row w w.heap.size .i64 v2 q2.len f ∧ ∀ i, i < q2.len → -9223372036854775808 ≤ f i ∧ f i ≤ 9223372036854775807) :
    Calls Try.prog 3 #[.int .i64 n0, v1, v2] w fun e w' => e = .returned (.bool true) ∧ Below w.heap.size w w' := by
  obtain ⟨rfl, hle, hmx, f1, hrow, hfb⟩ := hq1
  have ROW1 := Lib.hid hrow; have FB1 := Lib.hid hfb
  obtain ⟨len1, hlen⟩ : ∃ len, len = q1.len := ⟨_, rfl⟩
  obtain ⟨qa1, hqa⟩ : ∃ qa, qa = q1.a := ⟨_, rfl⟩
  obtain ⟨qc1, hqc⟩ : ∃ qc, qc = q1.cap := ⟨_, rfl⟩
  rw [← hlen, ← hqa, ← hqc] at ROW1
  rw [← hlen] at FB1
  have LM1 := Lib.hid (show len1 ≤ 9223372036854775807 ∧ len1 ≤ maxLen by simp only [maxLen] at hmx ⊢; omega)
  rw [← hlen, ← hqa, ← hqc]
  clear hrow hfb hle hmx hlen hqa hqc
  obtain ⟨rfl, hle, hmx, f2, hrow, hfb⟩ := hq2
  have ROW2 := Lib.hid hrow; have FB2 := Lib.hid hfb
  obtain ⟨len2, hlen⟩ : ∃ len, len = q2.len := ⟨_, rfl⟩
  obtain ⟨qa2, hqa⟩ : ∃ qa, qa = q2.a := ⟨_, rfl⟩
  obtain ⟨qc2, hqc⟩ : ∃ qc, qc = q2.cap := ⟨_, rfl⟩
  rw [← hlen, ← hqa, ← hqc] at ROW2
  rw [← hlen] at FB2
  have LM2 := Lib.hid (show len2 ≤ 9223372036854775807 ∧ len2 ≤ maxLen by simp only [maxLen] at hmx ⊢; omega)
  rw [← hlen, ← hqa, ← hqc]
  clear hrow hfb hle hmx hlen hqa hqc
  have CA := Lib.hid (awake14_any w)
  go_enter Try.func3, Try.ntmps3
  go_wp2_with fail
  refine CA.out.mono ?_
  rintro e w1 ⟨rfl, hb⟩
  have B1 := Lib.hid hb
  clear hb CA
  have CM := memory_good 64 w1 (by omega) (by omega)
  rw [show ((64 : Nat) : Int) = 64 from rfl] at CM
  have CM := Lib.hid CM
  go_wp2_with fail
  refine CM.out.mono ?_
  rintro e w2 ⟨gs, r, rfl, hS, hb⟩
  have S2 := Lib.hid (show Sh w2 w.heap.size gs r (List.replicate 64 Pg.zero) from ⟨hS.box, hS.row, hS.one, hS.most, Nat.le_trans B1.out.size hS.bg, Nat.le_trans B1.out.size hS.br⟩)
  have B2 := Lib.hid (below_then B1.out hb B1.out.size)
  clear hS hb CM B1
  as_aux_lemma =>
    go_wp2_with fail
    refine (ss_new S2.out B2.out.size).mono ?_
    rintro e w3 ⟨g, b, rfl, hs, hb, -, -⟩
    have V3 := Lib.hid (sv_zero hs)
    have B3 := Lib.hid (below_then B2.out hb B2.out.size)
    clear hs hb S2 B2
    as_aux_lemma =>
      by_cases c64 : (64 : Int) < n0
      · clear V3
        go_wp2
        go_ret
        exact ⟨rfl, B3.out⟩
      by_cases c4 : n0 < 4
      · have CF := Lib.hid (format_bad (g := g) n0 w3 (.inl c4))
        clear V3
        go_wp2_with fail
        refine CF.out.mono ?_
        rintro e w4 ⟨rfl, rfl⟩
        clear CF
        go_wp2
        go_ret
        exact ⟨rfl, B3.out⟩
      obtain ⟨n, rfl⟩ : ∃ n : Nat, n0 = (n : Int) := ⟨n0.toNat, by omega⟩
      have NB := Lib.hid (show 4 ≤ n ∧ n ≤ 64 by omega)
      have CF := Lib.hid (format_good V3.out (by omega) n (by omega) (by omega) (by decide))
      clear hn1 hn2
      as_aux_lemma =>
        go_wp2_with fail
        refine CF.out.mono ?_
        rintro e w4 ⟨rfl, hs, hg⟩
        have V4 := Lib.hid hs
        have O4 := Lib.hid (vol_new pz n NB.out.1 (by have := NB.out; omega))
        have B4 := Lib.hid (bl_grow B3.out hg (fun k hk => by cases hk; exact V3.out.b_ge) B3.out.size)
        generalize upd (upd pz 0 dir0) 1 (mapN n) = pg4 at *
        clear hs hg CF V3 B3 c4
        have CL := Lib.hid (land_any V4.out B4.out 0)
        as_aux_lemma =>
          go_wp2_with fail
          refine CL.out.mono ?_
          rintro e w8 ⟨rfl, hs, hb⟩
          have V8 := Lib.hid (show SV w8 w.heap.size g b gs r 64 0 pg4 pg4 from hs)
          have B8 := Lib.hid hb
          clear hs hb CL V4 B4
          have MP := Lib.hid (Mp.made w8 Try.prog 3)
          have V9 := Lib.hid (V8.out.alloc (.map #[] 0))
          have B9 := Lib.hid (B8.out.alloc B8.out.size (.map #[] 0))
          have F9 := Lib.hid (show w8.heap.size < (w8.alloc (.map #[] 0)).heap.size by simp)
          have FE := Lib.hid (show w8.heap.size ≠ g ∧ w8.heap.size ≠ b ∧ w8.heap.size ≠ gs ∧ w8.heap.size ≠ r ∧ w.heap.size ≤ w8.heap.size from by
            have h1 := V8.out.gs_ne
            have h2 := B8.out.size
            omega)
          have hmm := @run_makeMap Try.prog
          clear V8 B8
          have K0 := Lib.hid (keyOf_int_mk (P := Try.prog) Try.underlying3 (WalkArith.wf_i64 (n := 0) (by omega)))
          have K1 := Lib.hid (keyOf_int_mk (P := Try.prog) Try.underlying3 (WalkArith.wf_i64 (n := 1) (by omega)))
          as_aux_lemma =>
            go_upto_region 8 with fail
            go_upto_region 9 with (first
              | (refine wpList_mp_insert _ rfl _ _ _ 32 rfl 3 3 keyedInt Try.underlying32 _ 0 _ rfl MP.out (by decide) _ (.int .i64 0) _ rfl rfl K0.out ?_; intro wa hma hga; have MA := Lib.hid hma; have GA := Lib.hid hga; clear hma hga MP)
              | (refine wpList_mp_insert _ rfl _ _ _ 32 rfl 3 3 keyedInt Try.underlying32 _ 1 _ rfl MA.out (by decide) _ (.int .i64 0) _ rfl rfl K1.out ?_; intro wb hmb hgb; rw [ownI_0] at hmb; have MB := Lib.hid hmb; have GB := Lib.hid hgb; clear hmb hgb MA))
            have VB := Lib.hid (show SV wb w.heap.size g b gs r 64 0 pg4 pg4 from (V9.out.grown GA.out (fun k hk => by cases hk; exact ⟨FE.out.1, FE.out.2.1, FE.out.2.2.1, FE.out.2.2.2.1⟩)).grown GB.out (fun k hk => by cases hk; exact ⟨FE.out.1, FE.out.2.1, FE.out.2.2.1, FE.out.2.2.2.1⟩))
            have BB := Lib.hid (bl_grow (bl_grow B9.out GA.out (fun k hk => by cases hk; exact FE.out.2.2.2.2) B9.out.size) GB.out (fun k hk => by cases hk; exact FE.out.2.2.2.2) (Nat.le_trans B9.out.size GA.out.size))
            have FB := Lib.hid (show w8.heap.size < wb.heap.size from Nat.lt_of_lt_of_le F9.out (Nat.le_trans GA.out.size GB.out.size))
            have OA := Lib.hid (show OS wb w g b gs r w8.heap.size n true from ⟨⟨pg4, _, _, _, ow0, 2, VB.out, O4.out, (fun i hi => by unfold ow0; rw [if_neg (by have := NB.out; omega)]), MB.out, fun _ => owL_two (by have := NB.out; omega) rfl rfl⟩, FB.out, BB.out⟩)
            clear V9 B9 F9 GA GB VB BB FB MB hmm K0 K1 O4
            generalize w8.heap.size = F at *
            as_aux_lemma =>
              go_wp2_with fail
              go_loopw [60] (fun i wr => ∃ k : Nat, k ≤ len1 ∧ i = .int .i64 k ∧ OS wr w g b gs r F n true) (fun i _ => len1 - (intOf i).toNat)
              case atStart => exact ⟨0, Nat.zero_le _, rfl, OA.out⟩
              case round =>
                clear OA
                obtain ⟨k, hk, rfl, ho⟩ := hrel
                have OA := Lib.hid ho
                clear ho
                by_cases hlt : k < len1
                · have HLT := Lib.hid hlt
                  have hkb : k < 9223372036854775807 := by have := LM1.out; omega
                  obtain ⟨a', c', e1, -, hat⟩ := ROW1.out.below OA.out.bel (Nat.le_refl _)
                  obtain ⟨b1, off, e2, hb1, hra⟩ := hat (by omega)
                  obtain ⟨rfl, rfl⟩ : qa1 = some ⟨b1, off, none⟩ ∧ qc1 = c' := by rw [e2] at e1; simpa using e1
                  have r0 := hra k hlt
                  have FJ := Lib.hid (FB1.out k hlt)
                  obtain ⟨x, hx⟩ : ∃ x, x = f1 k := ⟨_, rfl⟩
                  rw [← hx] at r0 FJ
                  clear e1 hat e2 hb1 hra hx
                  obtain ⟨pg, st, kd, rt, ow, m, hs, hv, ht, hm, hml⟩ := OA.out.ex
                  have VA := Lib.hid hs; have OV := Lib.hid hv; have TA := Lib.hid ht; have MA := Lib.hid hm; have ML := Lib.hid (hml rfl)
                  clear hs hv ht hm hml
                  have CK := Lib.hid (make_vol VA.out (n := n) (by have := NB.out; omega) OV.out (by decide) x)
                  as_aux_lemma =>
                    go_wp2_with fail
                    refine CK.out.mono ?_
                    have RF := Lib.hid (fun (wb : World) (hb : Below wr.heap.size wr wb) (er : Int) => land_os (OA.out.kept hb) FE.out er)
                    rintro e wb (⟨hkk, rfl, rfl⟩ | ⟨hkk, (⟨hfull, rfl, hb⟩ | ⟨j1, hj1, h0, hroom, rfl, hb⟩ | ⟨j, id, pgb, hj, h0, hq, h2, hid, ho, hall, rfl, hs, hv, hg⟩)⟩)
                    · have CL := Lib.hid (RF.out wb (Below.refl _ _) 1)
                      clear RF CK VA OV TA MA ML OA r0 FJ hkk
                      go_wp2_with fail
                      refine CL.out.mono ?_
                      rintro e wc ⟨rfl, ho⟩
                      have OC := Lib.hid ho
                      clear ho CL
                      go_wp2
                      go_roundw
                      case rel => exact ⟨k + 1, by have := HLT.out; omega, by go_num, OC.out⟩
                      case measure => have := HLT.out; simp [intOf]; omega
                    · have CL := Lib.hid (RF.out wb hb 192)
                      clear RF CK VA OV TA MA ML OA r0 FJ hkk hfull hb
                      go_wp2_with fail
                      refine CL.out.mono ?_
                      rintro e wc ⟨rfl, ho⟩
                      have OC := Lib.hid ho
                      clear ho CL
                      go_wp2
                      go_roundw
                      case rel => exact ⟨k + 1, by have := HLT.out; omega, by go_num, OC.out⟩
                      case measure => have := HLT.out; simp [intOf]; omega
                    · have CL := Lib.hid (RF.out wb hb 140)
                      clear RF CK VA OV TA MA ML OA r0 FJ hkk hb hj1 h0 hroom
                      go_wp2_with fail
                      refine CL.out.mono ?_
                      rintro e wc ⟨rfl, ho⟩
                      have OC := Lib.hid ho
                      clear ho CL
                      go_wp2
                      go_roundw
                      case rel => exact ⟨k + 1, by have := HLT.out; omega, by go_num, OC.out⟩
                      case measure => have := HLT.out; simp [intOf]; omega
                    · have BB := Lib.hid (bl_grow OA.out.bel hg (fun k hk => by cases hk; exact VA.out.b_ge) OA.out.bel.size)
                      have MB := Lib.hid (MA.out.grown hg (fun e => FE.out.2.1 (by injection e with e)))
                      have FB2 := Lib.hid (Nat.lt_of_lt_of_le OA.out.fs hg.size)
                      have CL := Lib.hid (land_full hs BB.out 0)
                      have OB := Lib.hid hv
                      have HI := Lib.hid (show id < n ∧ ow id = none ∧ j < 6 from ⟨hid, ho, hj⟩)
                      clear RF CK VA OV MA OA r0 FJ hkk hs hv hg h0 hq h2 hid ho hall hj
                      as_aux_lemma =>
                        go_wp2_with fail
                        refine CL.out.mono ?_
                        rintro e wc ⟨rfl, hs, hb⟩
                        have VC := Lib.hid (show SV wc w.heap.size g b gs r 64 0 pgb pgb from hs)
                        have MC := Lib.hid (MB.out.of_block (hb.2.2 F FB2.out FE.out.2.1 FE.out.2.2.2.1))
                        have FC := Lib.hid (Nat.lt_of_lt_of_le FB2.out hb.2.1)
                        have BC := Lib.hid hb.1
                        clear hs hb CL BB MB FB2
                        have CD := Lib.hid (find_vol VC.out OB.out ((j : Int) + 1))
                        as_aux_lemma =>
                          go_wp2_with fail
                          refine CD.out.mono ?_
                          rintro e wd (⟨h, -, -⟩ | ⟨-, rfl, hb⟩)
                          · refine absurd ⟨by omega, by have := HI.out; omega, ?_⟩ h
                            rw [show ((j : Int) + 1 - 1).toNat = j by omega, put_at]; decide
                          rw [show ((j : Int) + 1 - 1).toNat = j by omega, put_at, put_at, put_at]
                          have VD := Lib.hid (VC.out.kept hb)
                          have MD := Lib.hid (MC.out.kept hb)
                          have FD := Lib.hid (Nat.lt_of_lt_of_le FC.out hb.size)
                          have BD := Lib.hid (below_then BC.out hb BC.out.size)
                          clear hb CD VC MC FC BC
                          have hidn : ¬ (n : Int) ≤ (id : Int) := by have := HI.out; omega
                          have KI := Lib.hid (keyOf_int_mk (P := Try.prog) Try.underlying3 (WalkArith.wf_i64 (n := (id : Int)) (by have := HI.out; have := NB.out; omega)))
                          as_aux_lemma =>
                            go_wp2_with (first
                              | (at_lookup; refine wpList_mp_look _ rfl _ _ 32 rfl 3 3 keyedInt Try.underlying32 (zeroInt _) F m _ rfl MD.out _ _ rfl KI.out ?_; rw [ownI_at, HI.out.2.1]; simp only [Option.map_none, Option.getD_none, Option.isSome_none])
                              | (at_mapUpdate; refine wpList_mp_store _ rfl _ _ _ 32 rfl 3 3 keyedInt Try.underlying32 F m _ rfl MD.out (by have := ML.out; have := owL_le ow n; have := NB.out; simp only [maxLen]; omega) _ (.int .i64 ((j : Int) + 1)) _ rfl rfl KI.out ?_; intro we hme hge; rw [ownI_put] at hme))
                            have OE := Lib.hid (show OS we w g b gs r F n true from ⟨⟨pgb, _, _, _, _, m + 1, VD.out.grown hge (fun k hk => by cases hk; exact ⟨FE.out.1, FE.out.2.1, FE.out.2.2.1, FE.out.2.2.2.1⟩), OB.out, TA.out.put HI.out.1 _, hme, fun _ => by have := owL_put HI.out.1 HI.out.2.1 ((j : Int) + 1); have := ML.out; omega⟩, Nat.lt_of_lt_of_le FD.out hge.size, bl_grow BD.out hge (fun k hk => by cases hk; exact FE.out.2.2.2.2) BD.out.size⟩)
                            clear hme hge VD MD FD BD OB hidn
                            go_wp2
                            go_roundw
                            case rel => exact ⟨k + 1, by have := HLT.out; omega, by go_num, OE.out⟩
                            case measure => have := HLT.out; simp [intOf]; omega
                · obtain rfl : k = len1 := by omega
                  clear hlt hk
                  as_aux_lemma =>
                    go_upto_block 2 with fail
                    go_cut [110] (fun s110 wx => OS wx w g b gs r F n true)
                    case first =>
                      as_aux_lemma =>
                        go_wp2_with fail
                        go_loopw [110] (fun i wr => ∃ k : Nat, k ≤ len2 ∧ i = .int .i64 k ∧ OS wr w g b gs r F n true) (fun i _ => len2 - (intOf i).toNat)
                        case atStart => exact ⟨0, Nat.zero_le _, rfl, OA.out⟩
                        case round =>
                          clear OA
                          obtain ⟨k, hk, rfl, ho⟩ := hrel
                          have OA := Lib.hid ho
                          clear ho
                          by_cases hlt : k < len2
                          · have HLT := Lib.hid hlt
                            have hkb : k < 9223372036854775807 := by have := LM2.out; omega
                            obtain ⟨a', c', e1, -, hat⟩ := ROW2.out.below OA.out.bel (Nat.le_refl _)
                            obtain ⟨b1, off, e2, hb1, hra⟩ := hat (by omega)
                            obtain ⟨rfl, rfl⟩ : qa2 = some ⟨b1, off, none⟩ ∧ qc2 = c' := by rw [e2] at e1; simpa using e1
                            have r0 := hra k hlt
                            have FJ := Lib.hid (FB2.out k hlt)
                            obtain ⟨x, hx⟩ : ∃ x, x = f2 k := ⟨_, rfl⟩
                            rw [← hx] at r0 FJ
                            clear e1 hat e2 hb1 hra hx
                            by_cases x1 : x < 1
                            · go_wp2
                              go_roundw
                              case rel => exact ⟨k + 1, by have := HLT.out; omega, by go_num, OA.out⟩
                              case measure => have := HLT.out; simp [intOf]; omega
                            by_cases x6 : (6 : Int) < x
                            · go_wp2
                              go_roundw
                              case rel => exact ⟨k + 1, by have := HLT.out; omega, by go_num, OA.out⟩
                              case measure => have := HLT.out; simp [intOf]; omega
                            obtain ⟨pg, st, kd, rt, ow, m, hs, hv, ht, hm, hml⟩ := OA.out.ex
                            have VA := Lib.hid hs; have OV := Lib.hid hv; have TA := Lib.hid ht; have MA := Lib.hid hm; have ML := Lib.hid (hml rfl)
                            clear hs hv ht hm hml
                            have CT := Lib.hid (take_vol VA.out (n := n) (by have := NB.out; omega) OV.out (by decide))
                            have X16 := Lib.hid (show 1 ≤ x ∧ x ≤ 6 by omega)
                            as_aux_lemma =>
                              go_wp2_with fail
                              refine CT.out.mono ?_
                              rintro e wb (⟨-, rfl, hb⟩ | ⟨id, y, pgb, h2, hid, ho, hall, rfl, hs, hv, hg⟩)
                              · have VB := Lib.hid (VA.out.kept hb)
                                have MB := Lib.hid (MA.out.kept hb)
                                have BB := Lib.hid (below_then OA.out.bel hb OA.out.bel.size)
                                have FB := Lib.hid (Nat.lt_of_lt_of_le OA.out.fs hb.size)
                                have CD := Lib.hid (sv_drop VB.out)
                                clear hb CT VA MA OA r0 FJ
                                as_aux_lemma =>
                                  go_wp2_with fail
                                  refine CD.out.mono ?_
                                  rintro e wc ⟨rfl, hs, hg⟩
                                  have OC := Lib.hid (show OS wc w g b gs r F n true from ⟨⟨pg, _, _, _, _, m, hs, OV.out, TA.out, MB.out.grown hg (fun e => FE.out.2.1 (by injection e with e)), fun _ => ML.out⟩, Nat.lt_of_lt_of_le FB.out hg.size, bl_grow BB.out hg (fun k hk => by cases hk; exact VB.out.b_ge) BB.out.size⟩)
                                  clear hs hg CD VB MB BB FB OV TA ML
                                  go_wp2
                                  go_meet
                                  exact OC.out
                              · have BB := Lib.hid (bl_grow OA.out.bel hg (fun k hk => by cases hk; exact VA.out.b_ge) OA.out.bel.size)
                                have MB := Lib.hid (MA.out.grown hg (fun e => FE.out.2.1 (by injection e with e)))
                                have FB := Lib.hid (Nat.lt_of_lt_of_le OA.out.fs hg.size)
                                have VB := Lib.hid hs
                                have OB := Lib.hid hv
                                have HI := Lib.hid (show id < n ∧ ow id = none ∧ 2 ≤ id from ⟨hid, ho, h2⟩)
                                have id2 : ¬ (id : Int) < 2 := by omega
                                have idn : ¬ (n : Int) ≤ (id : Int) := by omega
                                have hbld : ∀ w, (Instr.build 44 #[(0, .int .i64 3), (2, .int .i64 x)]).run Try.prog w = .ok (.agg (pgK 3 x).cs) w := fun w => by kernel_rfl
                                have pok : (pgK 3 x).ok := by
                                  refine ⟨?_, fun i _ => .inl ⟨rfl, rfl⟩⟩
                                  have := X16.out
                                  unfold Pg.head pgK
                                  dsimp only
                                  omega
                                have CS := Lib.hid (sv_set VB.out id (by have := NB.out; omega) (pgK 3 x) pok (by decide))
                                have KI := Lib.hid (keyOf_int_mk (P := Try.prog) Try.underlying3 (WalkArith.wf_i64 (n := (id : Int)) (by have := NB.out; omega)))
                                have id3 : ¬ id < 2 := by omega
                                have id4 : decide ((id : Int) < 2) = false := decide_eq_false id2
                                clear hs hv hg CT VA OV MA OA r0 FJ ho hall pok
                                as_aux_lemma =>
                                  go_upto_region 29 with (at_lookup; refine wpList_mp_look _ rfl _ _ 32 rfl 3 3 keyedInt Try.underlying32 (zeroInt _) F m _ rfl MB.out _ _ rfl KI.out ?_; rw [ownI_at, HI.out.2.1]; simp only [Option.map_none, Option.getD_none, Option.isSome_none])
                                  go_wp2_with fail
                                  refine CS.out.mono ?_
                                  rintro e wc ⟨rfl, hs, hg⟩
                                  have BC := Lib.hid (bl_grow BB.out hg (fun k hk => by cases hk; exact VB.out.b_ge) BB.out.size)
                                  have MC := Lib.hid (MB.out.grown hg (fun e => FE.out.2.1 (by injection e with e)))
                                  have FC := Lib.hid (Nat.lt_of_lt_of_le FB.out hg.size)
                                  have OC := Lib.hid (OB.out.lay id HI.out.2.2 (pgK 3 x))
                                  rw [put_at, if_pos (show (some y : Option Int).isSome = true from rfl), put_put, show (pgK 3 x).s = x from rfl] at OC
                                  have CL := Lib.hid (land_full hs BC.out 0)
                                  clear hs hg CS VB BB MB FB OB hbld
                                  as_aux_lemma =>
                                    go_wp2_with fail
                                    refine CL.out.mono ?_
                                    rintro e wd ⟨rfl, hs, hb⟩
                                    have VD := Lib.hid (show SV wd w.heap.size g b gs r 64 0 (upd pgb id (pgK 3 x)) (upd pgb id (pgK 3 x)) from hs)
                                    have MD := Lib.hid (MC.out.of_block (hb.2.2 F FC.out FE.out.2.1 FE.out.2.2.2.1))
                                    have FD := Lib.hid (Nat.lt_of_lt_of_le FC.out hb.2.1)
                                    have BD := Lib.hid hb.1
                                    clear hs hb CL BC MC FC
                                    as_aux_lemma =>
                                      go_wp2_with (at_mapUpdate; refine wpList_mp_store _ rfl _ _ _ 32 rfl 3 3 keyedInt Try.underlying32 F m _ rfl MD.out (by have := ML.out; have := owL_le ow n; have := NB.out; simp only [maxLen]; omega) _ (.int .i64 x) _ rfl rfl KI.out ?_; intro we hme hge; rw [ownI_put] at hme)
                                      have OE := Lib.hid (show OS we w g b gs r F n true from ⟨⟨_, _, _, _, _, m + 1, VD.out.grown hge (fun k hk => by cases hk; exact ⟨FE.out.1, FE.out.2.1, FE.out.2.2.1, FE.out.2.2.2.1⟩), OC.out, TA.out.put HI.out.1 _, hme, fun _ => by have := owL_put HI.out.1 HI.out.2.1 x; have := ML.out; omega⟩, Nat.lt_of_lt_of_le FD.out hge.size, bl_grow BD.out hge (fun k hk => by cases hk; exact FE.out.2.2.2.2) BD.out.size⟩)
                                      clear hme hge VD MD FD BD OC
                                      go_wp2
                                      go_roundw
                                      case rel => exact ⟨k + 1, by have := HLT.out; omega, by go_num, OE.out⟩
                                      case measure => have := HLT.out; simp [intOf]; omega
                          · obtain rfl : k = len2 := by omega
                            go_wp2
                            go_meet
                            exact OA.out
                    case rest =>
                      have OC := Lib.hid (show OS wc w g b gs r F n true from hcut)
                      clear hcut OA
                      as_aux_lemma =>
                        go_wp2_with fail
                        go_loopw [26] (fun i wr => ∃ s : Nat, 1 ≤ s ∧ s ≤ 7 ∧ i = .int .i64 s ∧ OS wr w g b gs r F n false) (fun i _ => 7 - (intOf i).toNat)
                        case atStart => exact ⟨1, Nat.le_refl _, by omega, rfl, OC.out.weak⟩
                        case round =>
                          clear OC
                          obtain ⟨s, hs1, hs7, rfl, ho⟩ := hrel
                          have OA := Lib.hid ho
                          clear ho
                          by_cases hlt : s ≤ 6
                          · have S6 := Lib.hid (show 1 ≤ s ∧ s ≤ 6 from ⟨hs1, hlt⟩)
                            have hle : (s : Int) ≤ 6 := by omega
                            obtain ⟨pg, st, kd, rt, ow, m, hs, hv, ht, hm, -⟩ := OA.out.ex
                            have VA := Lib.hid hs; have OV := Lib.hid hv; have TA := Lib.hid ht; have MA := Lib.hid hm
                            clear hs hv ht hm hs1 hs7
                            have CG := Lib.hid (forget_vol VA.out (n := n) (by have := NB.out; omega) OV.out (by decide) (s : Int))
                            as_aux_lemma =>
                              go_wp2_with fail
                              refine CG.out.mono ?_
                              rintro e wb (⟨-, rfl, hb⟩ | ⟨hyes, rfl, pgb, hs, hv, hg⟩)
                              · have CL := Lib.hid (land_full (VA.out.kept hb) (below_then OA.out.bel hb OA.out.bel.size) 1)
                                have MB := Lib.hid (MA.out.kept hb)
                                have FB := Lib.hid (Nat.lt_of_lt_of_le OA.out.fs hb.size)
                                clear hb CG VA MA OA
                                as_aux_lemma =>
                                  go_wp2_with fail
                                  refine CL.out.mono ?_
                                  rintro e wd ⟨rfl, hs, hb⟩
                                  rw [landed_same] at hs
                                  have VD := Lib.hid hs
                                  have MD := Lib.hid (MB.out.of_block (hb.2.2 F FB.out FE.out.2.1 FE.out.2.2.2.1))
                                  have FD := Lib.hid (Nat.lt_of_lt_of_le FB.out hb.2.1)
                                  have BD := Lib.hid hb.1
                                  have OD := Lib.hid OV.out
                                  have TD := Lib.hid TA.out
                                  clear hs hb CL MB FB OV TA
                                  have HLN := Lib.hid (owL_le ow n)
                                  have CU := Lib.hid (used_vol VD.out (n := n) (by have := NB.out; omega) OD.out)
                                  as_aux_lemma =>
                                    go_wp2_with fail
                                    refine CU.out.mono ?_
                                    rintro e we ⟨v, rfl, hv, hb⟩
                                    obtain ⟨L, hL⟩ : ∃ L, L = owL ow n := ⟨_, rfl⟩
                                    rw [← hL] at hv HLN
                                    have MEM := Lib.hid (show ∀ x, x ∈ L ↔ (ownI ow x).isSome = true from fun x => by rw [hL]; exact owL_mem TD.out x)
                                    have RNG := Lib.hid (show ∀ x ∈ L, 0 ≤ x ∧ x < (n : Int) from fun x hx => by
                                      rw [hL] at hx
                                      unfold owL at hx
                                      obtain ⟨i, hi, rfl⟩ := List.mem_map.1 hx
                                      have := List.mem_range.1 (List.mem_filter.1 hi).1
                                      omega)
                                    have ME := Lib.hid (MD.out.kept hb)
                                    have OE := Lib.hid (show OS we w g b gs r F n false from ⟨⟨_, _, _, _, _, m, VD.out.kept hb, OD.out, TD.out, ME.out, fun h => by cases h⟩, Nat.lt_of_lt_of_le FD.out hb.size, below_then BD.out hb BD.out.size⟩)
                                    have UE := Lib.hid hv
                                    have UL := Lib.hid (hv.1)
                                    obtain ⟨ua, uc, rfl⟩ := ow_slice hv
                                    have hml := fun ty => ME.out.len keyedInt Try.underlying32 ty L (by rw [hL]; exact owL_nodup _ _) (fun x => MEM.out x)
                                    clear hv hb hL CU VD MD FD BD OD TD
                                    as_aux_lemma =>
                                      go_wp2_with fail
                                      clear hml
                                      go_loopw [207] (fun i wr => ∃ k : Nat, k ≤ L.length ∧ i = .int .i64 k ∧ we = wr) (fun i _ => L.length - (intOf i).toNat)
                                      case atStart => exact ⟨0, Nat.zero_le _, rfl, rfl⟩
                                      case round =>
                                        obtain ⟨k, hk, rfl, rfl⟩ := hrel
                                        by_cases hlt2 : k < L.length
                                        · have HLT2 := Lib.hid hlt2
                                          have hkb : k < 9223372036854775807 := by have := HLN.out; have := NB.out; omega
                                          obtain ⟨x, hx⟩ : ∃ x, L[k]? = some x := ⟨_, List.getElem?_eq_getElem hlt2⟩
                                          obtain ⟨gi, ci, e1, _, hgi⟩ := ow_form UE.out (by omega)
                                          obtain ⟨rfl, rfl⟩ : ua = some ⟨gi, 0, none⟩ ∧ uc = ci := by simpa using e1
                                          have r0 : we.cell? ⟨gi, k, none⟩ = some (.int .i64 x) := by
                                            have := UE.out.cells (g := gi) rfl k (.int .i64 x) (by rw [List.getElem?_map, hx]; rfl)
                                            rw [Addr.add_lit, Nat.zero_add] at this
                                            exact this
                                          have HX := Lib.hid ((MEM.out x).1 (List.mem_of_getElem? hx))
                                          have X0 := Lib.hid (show 0 ≤ x ∧ x < 64 from by have := RNG.out x (List.mem_of_getElem? hx); have := NB.out; omega)
                                          have KX := Lib.hid (keyOf_int_mk (P := Try.prog) Try.underlying3 (WalkArith.wf_i64 (n := x) (by have := X0.out; omega)))
                                          obtain ⟨c, hc⟩ : ∃ c, keyI (ownI ow) (.int .i64 x) = some c := by
                                            cases hc : ownI ow x with
                                            | none => have := HX.out; rw [hc] at this; cases this
                                            | some c => exact ⟨c, hc⟩
                                          have HC := Lib.hid hc
                                          clear hx e1 hgi hc
                                          as_aux_lemma =>
                                            go_wp2_with (first
                                              | (at_lookup; refine wpList_mp_look _ rfl _ _ 32 rfl 3 3 keyedInt Try.underlying32 (zeroInt _) F m _ rfl ME.out _ _ rfl KX.out ?_; rw [HC.out]; simp only [Option.getD_some, Option.isSome_some])
                                              | fail)
                                            go_roundw
                                            case rel => exact ⟨k + 1, by have := HLT2.out; omega, by go_num, trivial⟩
                                            case measure => have := HLT2.out; simp [intOf]; omega
                                        · obtain rfl : k = L.length := by omega
                                          clear hlt2 hk
                                          go_wp2
                                          go_roundw
                                          case rel => exact ⟨s + 1, by have := S6.out; omega, by have := S6.out; omega, by go_num, OE.out⟩
                                          case measure => have := S6.out; simp [intOf]; omega
                              · have BB := Lib.hid (bl_grow OA.out.bel hg (fun k hk => by cases hk; exact VA.out.b_ge) OA.out.bel.size)
                                have CL := Lib.hid (land_full hs BB.out 0)
                                have MB := Lib.hid (MA.out.grown hg (fun e => FE.out.2.1 (by injection e with e)))
                                have FB := Lib.hid (Nat.lt_of_lt_of_le OA.out.fs hg.size)
                                have OB := Lib.hid hv
                                clear hs hv hg hyes CG VA MA OA BB
                                as_aux_lemma =>
                                  go_wp2_with fail
                                  refine CL.out.mono ?_
                                  rintro e wc ⟨rfl, hs, hb⟩
                                  have VC := Lib.hid (show SV wc w.heap.size g b gs r 64 0 pgb pgb from hs)
                                  have MC := Lib.hid (MB.out.of_block (hb.2.2 F FB.out FE.out.2.1 FE.out.2.2.2.1))
                                  have FC := Lib.hid (Nat.lt_of_lt_of_le FB.out hb.2.1)
                                  have BC := Lib.hid hb.1
                                  clear hs hb CL MB FB
                                  obtain ⟨R, hR⟩ : ∃ R, R = wc.heap.size := ⟨_, rfl⟩
                                  as_aux_lemma =>
                                    go_wp2_with (first
                                      | (at_range; refine wpList_mp_range _ rfl _ 32 rfl 3 3 keyedInt Try.underlying32 F m _ rfl MC.out ?_; rw [← hR]; intro w0 left0 cnt0 hl0 hr0 hg0 hs0)
                                      | fail)
                                    have RN := Lib.hid (show R ≠ g ∧ R ≠ b ∧ R ≠ gs ∧ R ≠ r ∧ w.heap.size ≤ R ∧ R ≠ F by have := VC.out.gs_ne; have := BC.out.size; have := FC.out; omega)
                                    have V0 := Lib.hid (VC.out.grown hg0 (fun k hk => by cases hk))
                                    have B0 := Lib.hid (bl_grow BC.out hg0 (fun k hk => by cases hk) BC.out.size)
                                    have F0 := Lib.hid (Nat.lt_of_lt_of_le FC.out hg0.size)
                                    rw [midI_start ow s hl0] at hr0
                                    have M0 := Lib.hid hr0
                                    clear hl0 hr0 hg0 hs0 hR VC MC FC BC
                                    go_frame
                                    go_loopw [28] (fun x wr => ∃ (left : Lit → Bool) (cnt : Nat), MpR wr Try.prog 3 F R m (keyI (midI ow s left)) left cnt ∧ SV wr w.heap.size g b gs r 64 0 pgb pgb ∧ F < wr.heap.size ∧ Below w.heap.size w wr) (fun _ wr => wr.rangeLeft F R)
                                    case atStart => exact ⟨left0, cnt0, M0.out, V0.out, F0.out, B0.out⟩
                                    case round =>
                                      clear M0 V0 F0 B0
                                      obtain ⟨left, cnt, hrg, hs, hf, hb⟩ := hrel
                                      have RG := Lib.hid hrg; have V1 := Lib.hid hs; have F1 := Lib.hid hf; have B1 := Lib.hid hb
                                      clear hrg hs hf hb
                                      as_aux_lemma =>
                                        go_wp2_with (first
                                          | (at_next; refine wpList_mp_next _ rfl _ rfl 3 keyedInt Try.underlying3 F R m _ left cnt rfl RG.out ?_ ?_)
                                          | fail)
                                        · intro _ hl0
                                          have MD := Lib.hid (RG.out.mp.congr (by rw [midI_end ow s hl0]))
                                          have VD := Lib.hid V1.out
                                          have FD := Lib.hid F1.out
                                          have BD := Lib.hid B1.out
                                          have OD := Lib.hid OB.out
                                          have TD := Lib.hid (TA.out.owF (s : Int))
                                          obtain ⟨wd, hwd⟩ : ∃ wd, wd = wr := ⟨_, rfl⟩
                                          rw [← hwd] at MD VD FD BD ⊢
                                          obtain ⟨ow3, how⟩ : ∃ ow3, ow3 = owF ow s := ⟨_, rfl⟩
                                          rw [← how] at MD OD TD
                                          clear hl0 RG V1 F1 B1 OB TA OV hwd how
                                          have HLN := Lib.hid (owL_le ow3 n)
                                          have CU := Lib.hid (used_vol VD.out (n := n) (by have := NB.out; omega) OD.out)
                                          as_aux_lemma =>
                                            go_wp2_with fail
                                            refine CU.out.mono ?_
                                            rintro e we ⟨v, rfl, hv, hb⟩
                                            obtain ⟨L, hL⟩ : ∃ L, L = owL ow3 n := ⟨_, rfl⟩
                                            rw [← hL] at hv HLN
                                            have MEM := Lib.hid (show ∀ x, x ∈ L ↔ (ownI ow3 x).isSome = true from fun x => by rw [hL]; exact owL_mem TD.out x)
                                            have RNG := Lib.hid (show ∀ x ∈ L, 0 ≤ x ∧ x < (n : Int) from fun x hx => by
                                              rw [hL] at hx
                                              unfold owL at hx
                                              obtain ⟨i, hi, rfl⟩ := List.mem_map.1 hx
                                              have := List.mem_range.1 (List.mem_filter.1 hi).1
                                              omega)
                                            have ME := Lib.hid (MD.out.kept hb)
                                            have OE := Lib.hid (show OS we w g b gs r F n false from ⟨⟨_, _, _, _, _, m, VD.out.kept hb, OD.out, TD.out, ME.out, fun h => by cases h⟩, Nat.lt_of_lt_of_le FD.out hb.size, below_then BD.out hb BD.out.size⟩)
                                            have UE := Lib.hid hv
                                            have UL := Lib.hid (hv.1)
                                            obtain ⟨ua, uc, rfl⟩ := ow_slice hv
                                            have hml := fun ty => ME.out.len keyedInt Try.underlying32 ty L (by rw [hL]; exact owL_nodup _ _) (fun x => MEM.out x)
                                            clear hv hb hL CU VD MD FD BD OD TD
                                            as_aux_lemma =>
                                              go_wp2_with fail
                                              clear hml
                                              go_loopw [207] (fun i wr => ∃ k : Nat, k ≤ L.length ∧ i = .int .i64 k ∧ we = wr) (fun i _ => L.length - (intOf i).toNat)
                                              case atStart => exact ⟨0, Nat.zero_le _, rfl, rfl⟩
                                              case round =>
                                                obtain ⟨k, hk, rfl, rfl⟩ := hrel
                                                by_cases hlt2 : k < L.length
                                                · have HLT2 := Lib.hid hlt2
                                                  have hkb : k < 9223372036854775807 := by have := HLN.out; have := NB.out; omega
                                                  obtain ⟨x, hx⟩ : ∃ x, L[k]? = some x := ⟨_, List.getElem?_eq_getElem hlt2⟩
                                                  obtain ⟨gi, ci, e1, _, hgi⟩ := ow_form UE.out (by omega)
                                                  obtain ⟨rfl, rfl⟩ : ua = some ⟨gi, 0, none⟩ ∧ uc = ci := by simpa using e1
                                                  have r0 : we.cell? ⟨gi, k, none⟩ = some (.int .i64 x) := by
                                                    have := UE.out.cells (g := gi) rfl k (.int .i64 x) (by rw [List.getElem?_map, hx]; rfl)
                                                    rw [Addr.add_lit, Nat.zero_add] at this
                                                    exact this
                                                  have HX := Lib.hid ((MEM.out x).1 (List.mem_of_getElem? hx))
                                                  have X0 := Lib.hid (show 0 ≤ x ∧ x < 64 from by have := RNG.out x (List.mem_of_getElem? hx); have := NB.out; omega)
                                                  have KX := Lib.hid (keyOf_int_mk (P := Try.prog) Try.underlying3 (WalkArith.wf_i64 (n := x) (by have := X0.out; omega)))
                                                  obtain ⟨c, hc⟩ : ∃ c, keyI (ownI ow3) (.int .i64 x) = some c := by
                                                    cases hc : ownI ow3 x with
                                                    | none => have := HX.out; rw [hc] at this; cases this
                                                    | some c => exact ⟨c, hc⟩
                                                  have HC := Lib.hid hc
                                                  clear hx e1 hgi hc
                                                  as_aux_lemma =>
                                                    go_wp2_with (first
                                                      | (at_lookup; refine wpList_mp_look _ rfl _ _ 32 rfl 3 3 keyedInt Try.underlying32 (zeroInt _) F m _ rfl ME.out _ _ rfl KX.out ?_; rw [HC.out]; simp only [Option.getD_some, Option.isSome_some])
                                                      | fail)
                                                    go_roundw
                                                    case rel => exact ⟨k + 1, by have := HLT2.out; omega, by go_num, trivial⟩
                                                    case measure => have := HLT2.out; simp [intOf]; omega
                                                · obtain rfl : k = L.length := by omega
                                                  clear hlt2 hk
                                                  go_wp2
                                                  go_roundw
                                                  case rel => exact ⟨s + 1, by have := S6.out; omega, by have := S6.out; omega, by go_num, OE.out⟩
                                                  case measure => have := S6.out; simp [intOf]; omega
                                        · intro x c w2 cnt2 hwf hl hfx hrg2 hlt2 hg2 hs2 hen
                                          obtain ⟨y, hx0, hy, rfl⟩ : ∃ y, 0 ≤ x ∧ ow x.toNat = some y ∧ c = .int .i64 y := by
                                            rw [keyI_at] at hfx
                                            unfold midI at hfx
                                            rw [hl] at hfx
                                            change ownI ow x = some c at hfx
                                            unfold ownI at hfx
                                            split at hfx
                                            · rename_i h0
                                              cases ho : ow x.toNat with
                                              | none => rw [ho] at hfx; cases hfx
                                              | some y => rw [ho] at hfx; exact ⟨y, h0, rfl, (Option.some.inj hfx).symm⟩
                                            · cases hfx
                                          have R2 := Lib.hid hrg2
                                          have V2 := Lib.hid (V1.out.grown hg2 (fun k hk => by cases hk; exact ⟨RN.out.1, RN.out.2.1, RN.out.2.2.1, RN.out.2.2.2.1⟩))
                                          have B2 := Lib.hid (bl_grow B1.out hg2 (fun k hk => by cases hk; exact RN.out.2.2.2.2.1) B1.out.size)
                                          have F2 := Lib.hid (Nat.lt_of_lt_of_le F1.out hg2.size)
                                          have LC := Lib.hid (show cnt2 < wr.rangeLeft F R by rw [RG.out.left_eq]; exact hlt2)
                                          have Y := Lib.hid hy
                                          have Z := Lib.hid OV.out.z
                                          have KX := Lib.hid (keyOf_int_mk (P := Try.prog) Try.underlying3 hwf)
                                          clear hrg2 hg2 hs2 hl hfx hlt2 RG V1 F1 B1 hy
                                          by_cases hys : y = (s : Int)
                                          · subst hys
                                            go_wp2_with (first
                                              | (at_delete; refine wpList_mpr_delete _ rfl _ _ 32 3 rfl 3 keyedInt Try.underlying32 F R m _ _ cnt2 rfl R2.out _ _ rfl KX.out ?_; intro w3 cnt3 hrg3 hle3 hg3; go_frame)
                                              | fail)
                                            have hx2 : 2 ≤ x.toNat := by
                                              by_cases e0 : x.toNat = 0
                                              · have h1 := Y.out; rw [e0, Z.out.1] at h1; have h2 := S6.out; injection h1 with h1; omega
                                              · by_cases e1 : x.toNat = 1
                                                · have h1 := Y.out; rw [e1, Z.out.2] at h1; have h2 := S6.out; injection h1 with h1; omega
                                                · omega
                                            rw [midI_del ow _ left hx2 Y.out, strike_twice] at hrg3
                                            have M3 := Lib.hid hrg3
                                            have V3 := Lib.hid (V2.out.grown hg3 (fun k hk => by cases hk; exact ⟨FE.out.1, FE.out.2.1, FE.out.2.2.1, FE.out.2.2.2.1⟩))
                                            have B3 := Lib.hid (bl_grow B2.out hg3 (fun k hk => by cases hk; exact FE.out.2.2.2.2) B2.out.size)
                                            have F3 := Lib.hid (Nat.lt_of_lt_of_le F2.out hg3.size)
                                            have LD := Lib.hid (show cnt3 < wr.rangeLeft F R from Nat.lt_of_le_of_lt hle3 LC.out)
                                            clear hrg3 hg3 hle3 V2 B2 F2 R2 LC
                                            go_roundw
                                            case rel => exact ⟨_, cnt3, M3.out, V3.out, F3.out, B3.out⟩
                                            case measure => rw [M3.out.left_eq]; exact LD.out
                                          · have M3 := Lib.hid (R2.out.congr (g := keyI (midI ow s (fun z => left z && !z.sameKey (.int .i64 x)))) (by rw [midI_stay ow s left (x := x) (fun h => hys (Option.some.inj (Y.out.symm.trans h)))]))
                                            clear R2
                                            go_wp2
                                            go_roundw
                                            case rel => exact ⟨_, cnt2, M3.out, V2.out, F2.out, B2.out⟩
                                            case measure => rw [M3.out.left_eq]; exact LC.out
                          · have hle : ¬ (s : Int) ≤ 6 := by omega
                            clear hlt hs1 hs7
                            go_wp2
                            go_ret
                            exact ⟨rfl, OA.out.bel⟩
end Go.Proofs.Yteccaickdjbndaa
