/- HeapMaps. -/
import Derived.Test.YtdhfcjplnbnkdaaHpLs
import Derived.Test.YtdhfcjplnbnkdaaMapI
import Derived.BigQuiet
set_option linter.unusedVariables false
set_option linter.unusedSimpArgs false
namespace Go.Proofs.Ytdhfcjplnbnkdaa
open Go.RowKit Go.Maps Go.ChangeMaps Go.MapKept

theorem ow_oth {w w' : World} {b r : Nat} {base : Nat} {e : TypeId} {size : Nat} {v : Value} {n : Nat} {xs : List Value} (h : w.ownsRow base e size v n xs) (ho : Oth w w' b r) (h1 : b < base) (h2 : r < base) : w'.ownsRow base e size v n xs :=
  ow_same h fun k hk => ho.2 k (ow_blk h hk).2.1 (by have := (ow_blk h hk).1; omega) (by have := (ow_blk h hk).1; omega)
theorem keyedInt : Keyed Try.prog 3 := int_keyed Try.underlying3
theorem zeroStr (w : World) : (zeroValue 9).run Try.prog w = .ok (.string ⟨#[]⟩) w := by kernel_rfl
open Classical in
/-- The records by their ids. -/
noncomputable def mpL (L : Nat → Nat → Ce) : Int → Option Value := fun x => if rcP L x then some (.string (L (x.toNat / 8) (x.toNat % 8)).d) else none
theorem mpL_yes {L : Nat → Nat → Ce} {x : Int} (h : rcP L x) : keyI (mpL L) (.int .i64 x) = some (.string (L (x.toNat / 8) (x.toNat % 8)).d) := by
  rw [keyI_at]; unfold mpL; exact if_pos h
theorem mpL_no {L : Nat → Nat → Ce} {x : Int} (h : ¬ rcP L x) : keyI (mpL L) (.int .i64 x) = none := by
  rw [keyI_at]; unfold mpL; exact if_neg h
theorem mpL_some (L : Nat → Nat → Ce) (x : Int) : (mpL L x).isSome = true ↔ rcP L x := by
  unfold mpL
  by_cases h : rcP L x <;> simp [h]
theorem rcP_putL_ne (L : Nat → Nat → Ce) (p s : Nat) (hs : s < 6) (c : Ce) {x : Int} (h : x ≠ (p : Int) * 8 + (s : Int)) (h0 : 0 ≤ x) : putL L p s c (x.toNat / 8) (x.toNat % 8) = L (x.toNat / 8) (x.toNat % 8) := by
  refine putL_ne _ _ fun e => h ?_
  have h1 : x.toNat = p * 8 + s := by omega
  omega
theorem putL_id (L : Nat → Nat → Ce) (p s : Nat) (hs : s < 6) (c : Ce) : putL L p s c (((p : Int) * 8 + (s : Int)).toNat / 8) (((p : Int) * 8 + (s : Int)).toNat % 8) = c := by
  rw [show ((p : Int) * 8 + (s : Int)).toNat = p * 8 + s by omega, show (p * 8 + s) / 8 = p by omega, show (p * 8 + s) % 8 = s by omega, putL_at]
theorem rcP_ne (L : Nat → Nat → Ce) (p s : Nat) (hs : s < 6) (c : Ce) {x : Int} (h : x ≠ (p : Int) * 8 + (s : Int)) : rcP (putL L p s c) x ↔ rcP L x := by
  unfold rcP
  by_cases h0 : 0 ≤ x
  · rw [rcP_putL_ne L p s hs c h h0]
  · simp [h0]
theorem mpL_put (L : Nat → Nat → Ce) (p s : Nat) (hs : s < 6) (v : ByteArray) : fput (keyI (mpL L)) (.int .i64 ((p : Int) * 8 + (s : Int))) (.string v) = keyI (mpL (putL L p s ⟨1, v⟩)) := by
  rw [keyI_put]
  refine congrArg keyI (funext fun y => ?_)
  by_cases h : y = (p : Int) * 8 + (s : Int)
  · subst h
    rw [if_pos rfl]
    unfold mpL
    rw [if_pos ((rcP_nat _ p s hs).2 (by rw [putL_at])), putL_id _ _ _ hs]
  · rw [if_neg h]
    unfold mpL
    by_cases hr : rcP L y
    · rw [if_pos hr, if_pos ((rcP_ne L p s hs _ h).2 hr), rcP_putL_ne L p s hs _ h hr.1]
    · rw [if_neg hr, if_neg (fun e => hr ((rcP_ne L p s hs _ h).1 e))]
theorem mpL_del (L : Nat → Nat → Ce) (p s : Nat) (hs : s < 6) (c : Ce) (hc : c.st ≠ 1) : fdel (keyI (mpL L)) (.int .i64 ((p : Int) * 8 + (s : Int))) = keyI (mpL (putL L p s c)) := by
  rw [keyI_del]
  refine congrArg keyI (funext fun y => ?_)
  by_cases h : y = (p : Int) * 8 + (s : Int)
  · subst h
    rw [if_pos rfl]
    unfold mpL
    rw [if_neg (fun e => hc (by have := (rcP_nat _ p s hs).1 e; rw [putL_at] at this; exact this))]
  · rw [if_neg h]
    unfold mpL
    by_cases hr : rcP L y
    · rw [if_pos hr, if_pos ((rcP_ne L p s hs _ h).2 hr), rcP_putL_ne L p s hs _ h hr.1]
    · rw [if_neg hr, if_neg (fun e => hr ((rcP_ne L p s hs _ h).1 e))]
theorem mpL_del_no (L : Nat → Nat → Ce) {x : Int} (h : ¬ rcP L x) : fdel (keyI (mpL L)) (.int .i64 x) = keyI (mpL L) := by
  rw [keyI_del]
  refine congrArg keyI (funext fun y => ?_)
  by_cases e : y = x
  · subst e
    rw [if_pos rfl]
    unfold mpL
    rw [if_neg h]
  · rw [if_neg e]
theorem mpL_0 : (fun _ => none) = keyI (mpL L0) := by
  funext kl
  cases kl with
  | int q x =>
    cases q <;> try rfl
    rw [mpL_no]
    rintro ⟨-, -, h⟩
    exact absurd h (by show ¬ (0 : Int) = 1; decide)
  | _ => rfl
theorem map_len {w : World} {F m : Nat} {L : Nat → Nat → Ce} (h : Mp w Try.prog 3 F m (keyI (mpL L))) {l : List Pr} (hl : LsP L l) (ty : TypeId) : (Builtin.len_ #[34] ty #[.map (some F)]).run Try.prog w = .ok (.int .i64 l.length) w := by
  have := h.len keyedInt Try.underlying34 ty (l.map (·.1)) (by
    rw [List.nodup_iff_pairwise_ne, List.pairwise_map]
    exact hl.sort.imp fun h e => by omega) (fun x => by
    rw [mpL_some]
    constructor
    · intro hx
      obtain ⟨p, hp, rfl⟩ := List.mem_map.1 hx
      exact ((hl.mem p).1 hp).1
    · intro hx
      exact List.mem_map.2 ⟨(x, (L (x.toNat / 8) (x.toNat % 8)).d), (hl.mem _).2 ⟨hx, rfl⟩, rfl⟩)
  rw [List.length_map] at this
  exact this
section
variable {P : Program} (w : World) {ops : Array Oper} {rest : List Oper} {o : Oper} {a : Act} {Q : Exit → Act → World → Prop}
theorem wpList_mp_len_if (hw : Region.wanted o (yielded ops a.tmps) = true) (m : Operand) (t : TypeId) (hop : o.op = Op.call { callee := Callee.builtin Builtin.len, args := #[m], argTypes := #[t] }) (b : Nat) (hm : a.eval m = .map (some b)) (x : Int)
    (hr : ∀ ty, (Builtin.len_ #[t] ty #[.map (some b)]).run P w = .ok (.int .i64 x) w) (hK : wpList P ops Q rest (a.put o.dst (.int .i64 x)) w) : wpList P ops Q (o :: rest) a w := by
  refine wpList_step fun K' hK' => ?_
  rw [if_pos hw]
  unfold Oper.wp
  simp [execOp, hop, resolve, invoke, builtin, hm, hr, Result.andThen]
  exact hK' _ _ hK
theorem wpList_mp_look1_if (hw : Region.wanted o (yielded ops a.tmps) = true) (m x : Operand) (t : TypeId) (hop : o.op = Op.lookup t m x false) (k e : TypeId) (K : Keyed P k) (ht : P.underlying t = some (.map k e)) {z : Value} (hz : (zeroValue e).run P w = .ok z w) (b n : Nat) (f : Lit → Option Value)
    (hm : a.eval m = .map (some b)) (hown : Mp w P k b n f) (key : Value) (kl : Lit) (hx : a.eval x = key) (hkey : keyOf P k key = some kl)
    (hK : wpList P ops Q rest (a.put o.dst ((f kl).getD z)) w) : wpList P ops Q (o :: rest) a w := by
  refine wpList_step fun K' hK' => ?_
  rw [if_pos hw]
  obtain ⟨-, hrun⟩ := hown.look K ht hz hkey
  unfold Oper.wp
  simp [execOp, hop, hm, hx, hrun, Result.andThen]
  exact hK' _ _ hK
theorem wpList_mp_delete (hg : o.guard = none) (m x : Operand) (t k : TypeId) (hop : o.op = Op.call { callee := Callee.builtin Builtin.delete, args := #[m, x], argTypes := #[t, k] })
    (e : TypeId) (K : Keyed P k) (ht : P.underlying t = some (.map k e)) (b n : Nat) (f : Lit → Option Value)
    (hm : a.eval m = .map (some b)) (h : Mp w P k b n f) (key : Value) (kl : Lit) (hx : a.eval x = key) (hkey : keyOf P k key = some kl)
    (hK : ∀ w', Mp w' P k b n (fdel f kl) → w.grownBy w' (some b) → wpList P ops Q rest (a.put o.dst (.tuple #[])) w') : wpList P ops Q (o :: rest) a w := by
  obtain ⟨D, h, d⟩ := h
  exact wpList_delete_own w hg m x t k hop e K ht anyElem b n D hm h key kl hx hkey fun w' h1 h2 => hK w' ⟨_, h1, d.del (K.key hkey)⟩ h2.grown
end
/-- What an insert answers: none is laid, for want of room or at too long a value; or one more. -/
theorem ins_three {w3 w4 : World} {B g b gs r N n : Nat} {pg : Nat → Pg} {ch : List Nat} {L : Nat → Nat → Ce} (h : SV w3 B g b gs r N 0 pg pg) {X : Prop} {val : ByteArray} {m : Nat} {f : Nat → Int} {e : Ending} (hp : InsPost X w3 B g b gs r N 0 n pg ch L val m f e w4) :
    (∃ (er : Int) (M' : Nat) (pg' : Nat → Pg), (er = 2 ∨ er = 140) ∧ e = .returned (.tuple #[.int .i64 0, .agg ud0.cs, .int .i64 er]) ∧ SV w4 B g b gs r N M' pg pg' ∧ w3.grownBy w4 (some b)) ∨
    (∃ (p s M' : Nat) (pg' : Nat → Pg) (ch' : List Nat), s < 6 ∧ 2 ≤ p ∧ p < n ∧ (L p s).st ≠ 1 ∧ e = .returned (.tuple #[.int .i64 ((p : Int) * 8 + (s : Int)), .agg (udC p s (L p s)).cs, .int .i64 0]) ∧ SV w4 B g b gs r N M' pg pg' ∧ Hc pg' n ch' (putL L p s ⟨1, val⟩) ∧ w3.grownBy w4 (some b)) := by
  rcases hp with ⟨-, rfl, hb⟩ | ⟨-, rfl, -, -, M', pg', ch', -, hs, -, hg⟩ | ⟨p, s, -, hs6, hpn, hst, hnk, rfl, -, M', pg', ch', hpc, -, hs, hc', hg⟩
  · exact .inl ⟨2, 0, pg, .inl rfl, rfl, h.kept hb, only_below hb _⟩
  · exact .inl ⟨140, M', pg', .inr rfl, rfl, hs, hg⟩
  · exact .inr ⟨p, s, M', pg', ch', hs6, (hc'.mem hpc).1, hpn, hst, rfl, hs, hc', hg⟩
/-- Where all stands, between two calls. -/
structure HM (w wr : World) (g b gs r n F m : Nat) (L : Nat → Nat → Ce) : Prop where
  ex : ∃ (pg : Nat → Pg) (ch : List Nat), SV wr w.heap.size g b gs r 32 0 pg pg ∧ Hc pg n ch L ∧ Mp wr Try.prog 3 F m (keyI (mpL L)) ∧ Below w.heap.size w wr
  fn : F ≠ g ∧ F ≠ b ∧ F ≠ gs ∧ F ≠ r ∧ w.heap.size ≤ F ∧ F < wr.heap.size
set_option maxRecDepth 100000 in
set_option maxHeartbeats 8000000 in
theorem walk_HeapMaps (n0 : Int) (v : Value) (cl : List Cl) (w : World) (hn1 : -9223372036854775808 ≤ n0) (hn2 : n0 ≤ 9223372036854775807) (hq : IsCls w v cl) :
    Calls Try.prog 3 #[.int .i64 n0, v] w fun e w' => e = .returned (.bool true) ∧ Below w.heap.size w w' := by
  have CAT := Lib.hid hq.at_; have CBD := Lib.hid hq.bd
  obtain ⟨a, c, rfl, -⟩ := CAT.out
  have hl0 := hq.len
  obtain ⟨len, hlen⟩ : ∃ len, len = cl.length := ⟨_, rfl⟩
  have HLN := Lib.hid hlen
  rw [← hlen] at hl0 ⊢
  have LX := Lib.hid hl0
  have LM := Lib.hid (show len ≤ 9223372036854775807 by simp only [maxLen] at hl0; omega)
  clear hq hlen hl0
  have CA := Lib.hid (awake15_any w)
  go_enter Try.func3, Try.ntmps3
  go_wp2_with fail
  refine CA.out.mono ?_
  rintro e w1 ⟨rfl, hb⟩
  have B1 := Lib.hid hb
  clear hb CA
  have CM := memory_good 32 w1 (by omega) (by omega)
  rw [show ((32 : Nat) : Int) = 32 from rfl] at CM
  have CM := Lib.hid CM
  go_wp2_with fail
  refine CM.out.mono ?_
  rintro e w2 ⟨gs, r, rfl, hS, hb⟩
  have S2 := Lib.hid (show Sh w2 w.heap.size gs r (List.replicate 32 Pg.zero) from ⟨hS.box, hS.row, hS.one, hS.most, Nat.le_trans B1.out.size hS.bg, Nat.le_trans B1.out.size hS.br⟩)
  have B2 := Lib.hid (below_then B1.out hb B1.out.size)
  clear hS hb CM B1
  as_aux_lemma =>
    go_wp2_with fail
    refine (ss_new S2.out B2.out.size).mono ?_
    rintro e w3 ⟨g, b, rfl, hs, hb, -, -⟩
    have V3 := Lib.hid (sv_zero hs)
    have B3 := Lib.hid (below_then B2.out hb B2.out.size)
    clear hs hb S2 B2
    as_aux_lemma =>
      by_cases c32 : (32 : Int) < n0
      · clear V3
        go_wp2
        go_ret
        exact ⟨rfl, B3.out⟩
      by_cases c4 : n0 < 4
      · have CF := Lib.hid (format_bad (g := g) n0 w3 (.inl c4))
        clear V3
        go_wp2_with fail
        refine CF.out.mono ?_
        rintro e w4 ⟨rfl, rfl⟩
        clear CF
        go_wp2
        go_ret
        exact ⟨rfl, B3.out⟩
      obtain ⟨n, rfl⟩ : ∃ n : Nat, n0 = (n : Int) := ⟨n0.toNat, by omega⟩
      have NB := Lib.hid (show 4 ≤ n ∧ n ≤ 32 by omega)
      have CF := Lib.hid (format_good V3.out (by omega) n NB.out.1 (by have := NB.out; omega) (by decide))
      go_wp2_with fail
      refine CF.out.mono ?_
      rintro e w4 ⟨rfl, hs, hg⟩
      have V4 := Lib.hid (show SV w4 w.heap.size g b gs r 32 2 pz (pv (n : Int)) from hs)
      have B4 := Lib.hid (bl_grow B3.out hg (fun k hk => by cases hk; exact V3.out.b_ge) B3.out.size)
      clear hs hg CF V3 B3
      as_aux_lemma =>
        have CK := Lib.hid (make_heap V4.out (n := n) NB.out.2 NB.out.1 (by have := NB.out; omega) (by decide))
        go_wp2_with fail
        refine CK.out.mono ?_
        rintro e w5 ⟨rfl, pg5, hs, hc, hg⟩
        have V5 := Lib.hid hs; have H5 := Lib.hid hc
        have B5 := Lib.hid (bl_grow B4.out hg (fun k hk => by cases hk; exact V4.out.b_ge) B4.out.size)
        clear hs hc hg CK V4 B4 c32 c4 hn1 hn2
        as_aux_lemma =>
          have CD := Lib.hid (land_full V5.out B5.out 0)
          go_wp2_with fail
          refine CD.out.mono ?_
          rintro e w6 ⟨rfl, hs, hb, -⟩
          rw [landed_zero] at hs
          have V6 := Lib.hid hs; have B6 := Lib.hid hb
          clear hs hb CD V5 B5
          obtain ⟨F, hF⟩ : ∃ F, F = w6.heap.size := ⟨_, rfl⟩
          have FN := Lib.hid (show F ≠ g ∧ F ≠ b ∧ F ≠ gs ∧ F ≠ r ∧ w.heap.size ≤ F ∧ F < (w6.alloc (.map #[] 0)).heap.size from by
            have h1 := V6.out.gs_ne
            have h2 := B6.out.size
            refine ⟨by omega, by omega, by omega, by omega, by omega, by rw [hF]; simp⟩)
          have HS := Lib.hid (show HM w (w6.alloc (.map #[] 0)) g b gs r n F 0 L0 from ⟨⟨pg5, [2], V6.out.alloc _, H5.out, by rw [hF]; exact (Mp.made w6 Try.prog 3).congr mpL_0, B6.out.alloc B6.out.size _⟩, FN.out⟩)
          have hmm := @run_makeMap Try.prog
          have HF := Lib.hid hF.symm
          clear hF V6 B6 H5 FN
          as_aux_lemma =>
            go_upto_region 11 with fail
            rw [HF.out]
            generalize w6.alloc (.map #[] 0) = w9 at *
            clear hmm HF
            as_aux_lemma =>
              go_wp2_with fail
              go_loopw [66] (fun i wr => ∃ (k m : Nat) (L : Nat → Nat → Ce), k ≤ len ∧ m ≤ k ∧ i = .int .i64 k ∧ HM w wr g b gs r n F m L) (fun i _ => len - (intOf i).toNat)
              case atStart => exact ⟨0, 0, L0, Nat.zero_le _, Nat.le_refl _, rfl, HS.out⟩
              case round =>
                clear HS
                obtain ⟨k, m, L, hk, hm, rfl, hh⟩ := hrel
                obtain ⟨⟨pg, ch, hs, hc, hmp, hb⟩, hf⟩ := hh
                have V := Lib.hid hs; have HC := Lib.hid hc; have BW := Lib.hid hb; have MP := Lib.hid hmp; have FE := Lib.hid hf; have HMK := Lib.hid hm
                clear hs hc hb hmp hf hm
                by_cases hlt : k < len
                · have HLT := Lib.hid hlt
                  have hkb : k < 9223372036854775807 := by have := LM.out; omega
                  have hkc : k < cl.length := by rw [← HLN.out]; exact hlt
                  obtain ⟨cc, hcc⟩ : ∃ cc, cc = cl[k] := ⟨_, rfl⟩
                  have OK := Lib.hid ((CBD.out _ (List.getElem_mem hkc)).below BW.out (Nat.le_refl _))
                  obtain ⟨a', c', e1, hat⟩ := CAT.out.below BW.out
                  obtain ⟨b1, off, e2, hb1, hra⟩ := hat (by omega)
                  rw [← HLN.out] at e1
                  obtain ⟨rfl, rfl⟩ : a = some ⟨b1, off, none⟩ ∧ c = c' := by rw [e2] at e1; simpa using e1
                  have RK := Lib.hid (hra k cl[k] (List.getElem?_eq_getElem hkc))
                  rw [← hcc] at OK RK
                  clear e1 hat e2 hb1 hra hcc hkc
                  have V1 := Lib.hid (V.out.alloc (.cells cc.cs 42))
                  have B1 := Lib.hid (BW.out.alloc BW.out.size (.cells cc.cs 42))
                  have M1 := Lib.hid (MP.out.alloc (.cells cc.cs 42))
                  have K1 := Lib.hid (Bk.new wr 42 cc.cs)
                  have O1 := Lib.hid (OK.out.below ((Below.refl w.heap.size wr).alloc BW.out.size (.cells cc.cs 42)) (Nat.le_refl _))
                  have GE := Lib.hid V1.out.gs_ne
                  obtain ⟨G, hG⟩ : ∃ G, G = wr.heap.size := ⟨_, rfl⟩
                  have GN := Lib.hid (show G ≠ b ∧ G ≠ r ∧ G ≠ F ∧ F ≠ g ∧ F ≠ b ∧ F ≠ gs ∧ F ≠ r ∧ w.heap.size ≤ F from by have h1 := V.out.gs_ne; have h2 := FE.out; rw [hG]; omega)
                  have F1 := Lib.hid (show F < (wr.alloc (.cells cc.cs 42)).heap.size from Nat.lt_of_lt_of_le FE.out.2.2.2.2.2 (by simp))
                  have HGW := Lib.hid hG.symm
                  clear V BW MP FE hG
                  as_aux_lemma =>
                    go_upto_region 14 with (first | (refine load_cl_off rfl _ rfl b1 off k cc rfl RK.out ?_) | (refine store_cl_new rfl _ _ rfl cc OK.out.sl rfl rfl ?_))
                    generalize wr.alloc (.cells cc.cs 42) = w7 at *
                    clear OK RK
                    rw [HGW.out] at K1 ⊢
                    clear HGW
                    have CIB := Lib.hid O1.out.id
                    have KI := Lib.hid (keyOf_int_mk (P := Try.prog) Try.underlying3 (WalkArith.wf_i64 (n := cc.id) CIB.out))
                    obtain ⟨sv, hd, hlk⟩ : ∃ (sv : ByteArray) (hd : Bool), ((keyI (mpL L) (.int .i64 cc.id)).getD (.string ⟨#[]⟩) = .string sv ∧ (keyI (mpL L) (.int .i64 cc.id)).isSome = hd) ∧ ((hd = true ∧ rcP L cc.id ∧ sv = (L (cc.id.toNat / 8) (cc.id.toNat % 8)).d) ∨ (hd = false ∧ ¬ rcP L cc.id ∧ sv = ⟨#[]⟩)) := by
                      by_cases hr : rcP L cc.id
                      · rw [mpL_yes hr]; exact ⟨_, true, ⟨rfl, rfl⟩, .inl ⟨rfl, hr, rfl⟩⟩
                      · rw [mpL_no hr]; exact ⟨_, false, ⟨rfl, rfl⟩, .inr ⟨rfl, hr, rfl⟩⟩
                    have LK := Lib.hid hlk.1; have HD := Lib.hid hlk.2
                    clear hlk
                    have y0 : w7.cell? ⟨G, 0, none⟩ = some (.int .i64 cc.k) := K1.out.cell 0
                    have y2 : w7.cell? ⟨G, 2, none⟩ = some (.int .i64 cc.id) := K1.out.cell 2
                    as_aux_lemma =>
                      go_upto_region 16 with (at_lookup; refine wpList_mp_look _ rfl _ _ 34 rfl 3 9 keyedInt Try.underlying34 (zeroStr _) F m _ rfl M1.out _ _ rfl KI.out ?_; rw [LK.out.1, LK.out.2])
                      clear y0 y2
                      by_cases kz : cc.k = 0
                      · have kzb : (cc.k == 0) = true := by simp [kz]
                        have y3 : w7.cell? ⟨G, 3, none⟩ = some (.string cc.v) := K1.out.cell 3
                        have y4 : w7.cell? ⟨G, 4, none⟩ = some cc.kv := K1.out.cell 4
                        obtain ⟨ka, kc, hkv⟩ := O1.out.sl
                        have CI := Lib.hid (insert_any V1.out (n := n) NB.out.2 HC.out (by decide) cc.v cc.kv cc.m cc.f (by have := O1.out.len; simp only [maxLen] at this; omega) O1.out.row)
                        rw [hkv] at y4 CI
                        clear hkv
                        as_aux_lemma =>
                          go_wp2_with fail
                          refine CI.out.mono ?_
                          rintro e w9 hp
                          rcases ins_three V1.out hp with ⟨er, M', pg', hne, rfl, hs, hg⟩ | ⟨p, s, M', pg', ch', hs6, hp2, hpn, hst, rfl, hs, hc', hg⟩
                          · have B9 := Lib.hid ((bl_grow B1.out hg (fun k hk => by cases hk; exact V1.out.b_ge) B1.out.size).alloc (Nat.le_trans B1.out.size hg.size) (.cells ud0.cs 45))
                            have V9 := Lib.hid (hs.alloc (.cells ud0.cs 45))
                            have M9 := Lib.hid ((M1.out.grown hg (fun e => GN.out.2.2.2.2.1 (by injection e))).alloc (.cells ud0.cs 45))
                            have F9 := Lib.hid (show F < (w9.alloc (.cells ud0.cs 45)).heap.size from Nat.lt_of_lt_of_le F1.out (Nat.le_trans hg.size (by simp)))
                            have LE := Lib.hid (landed_ne (show er ≠ 0 by omega) pg pg')
                            clear hp hs hg CI V1 B1 K1 y3 y4 M1 F1 O1
                            as_aux_lemma =>
                              go_wp2_with (refine store_ud_new rfl _ _ rfl ud0 rfl rfl ?_; generalize w9.alloc (.cells ud0.cs 45) = w10 at *)
                              refine (land_full V9.out B9.out er).mono ?_
                              rintro e w11 ⟨rfl, hs, hb, hoth⟩
                              rw [LE.out] at hs
                              have HS := Lib.hid (show HM w w11 g b gs r n F m L from ⟨⟨pg, ch, hs, HC.out, M9.out.of_block (hoth.2 F F9.out GN.out.2.2.2.2.1 GN.out.2.2.2.2.2.2.1), hb⟩, ⟨GN.out.2.2.2.1, GN.out.2.2.2.2.1, GN.out.2.2.2.2.2.1, GN.out.2.2.2.2.2.2.1, GN.out.2.2.2.2.2.2.2, Nat.lt_of_lt_of_le F9.out hoth.1⟩⟩)
                              clear hs hb V9 B9 LE M9 F9 hoth HC
                              rcases hne with rfl | rfl
                              all_goals
                                go_wp2
                                go_roundw
                                case rel => exact ⟨k + 1, m, L, by have := HLT.out; omega, by have := HMK.out; omega, by go_num, HS.out⟩
                                case measure => have := HLT.out; simp [intOf]; omega
                          · obtain ⟨u, hu⟩ : ∃ u, u = udC p s (L p s) := ⟨_, rfl⟩
                            rw [← hu]
                            clear hu
                            have B9 := Lib.hid ((bl_grow B1.out hg (fun k hk => by cases hk; exact V1.out.b_ge) B1.out.size).alloc (Nat.le_trans B1.out.size hg.size) (.cells u.cs 45))
                            have V9 := Lib.hid (hs.alloc (.cells u.cs 45))
                            have K9 := Lib.hid ((K1.out.grown hg (fun e => GN.out.1 (by injection e))).alloc (.cells u.cs 45))
                            have M9 := Lib.hid ((M1.out.grown hg (fun e => GN.out.2.2.2.2.1 (by injection e))).alloc (.cells u.cs 45))
                            have F9 := Lib.hid (show F < (w9.alloc (.cells u.cs 45)).heap.size from Nat.lt_of_lt_of_le F1.out (Nat.le_trans hg.size (by simp)))
                            have HC9 := Lib.hid hc'
                            have NR := Lib.hid (mpL_no (L := L) (x := (p : Int) * 8 + (s : Int)) (fun h => hst ((rcP_nat L p s hs6).1 h)))
                            have MPT := Lib.hid (mpL_put L p s hs6 cc.v)
                            have IB := Lib.hid (show ¬ (p : Int) * 8 + (s : Int) < 16 by omega)
                            have KD := Lib.hid (keyOf_int_mk (P := Try.prog) Try.underlying3 (WalkArith.wf_i64 (n := (p : Int) * 8 + (s : Int)) (by have := NB.out; omega)))
                            obtain ⟨L2, hL2⟩ : ∃ L2, L2 = putL L p s ⟨1, cc.v⟩ := ⟨_, rfl⟩
                            rw [← hL2] at HC9 MPT
                            obtain ⟨id, hid⟩ : ∃ id : Int, id = (p : Int) * 8 + (s : Int) := ⟨_, rfl⟩
                            rw [← hid] at NR MPT IB KD ⊢
                            clear hp hs hg CI V1 B1 K1 y3 y4 M1 F1 O1 HC hc' hst hL2 hid hs6 hpn hp2
                            as_aux_lemma =>
                              go_wp2_with (refine store_ud_new rfl _ _ rfl u rfl rfl ?_; generalize w9.alloc (.cells u.cs 45) = w10 at *)
                              refine (land_full V9.out B9.out 0).mono ?_
                              rintro e w11 ⟨rfl, hs, hb, hoth⟩
                              rw [landed_zero] at hs
                              have V11 := Lib.hid hs; have B11 := Lib.hid hb; have K11 := Lib.hid (hoth.bk K9.out GN.out.1 GN.out.2.1)
                              have M11 := Lib.hid (M9.out.of_block (hoth.2 F F9.out GN.out.2.2.2.2.1 GN.out.2.2.2.2.2.2.1))
                              have F11 := Lib.hid (Nat.lt_of_lt_of_le F9.out hoth.1)
                              have z3 : w11.cell? ⟨G, 3, none⟩ = some (.string cc.v) := K11.out.cell 3
                              have idn : ¬ id < 16 := by have := IB.out; omega
                              clear hs hb V9 B9 K9 M9 F9 hoth
                              as_aux_lemma =>
                                go_wp2_with (first
                                  | (at_lookup; refine wpList_mp_look _ rfl _ _ 34 rfl 3 9 keyedInt Try.underlying34 (zeroStr _) F m _ rfl M11.out _ _ rfl KD.out ?_; rw [NR.out]; simp only [Option.getD_none, Option.isSome_none])
                                  | (at_mapUpdate; refine wpList_mp_store _ rfl _ _ _ 34 rfl 3 9 keyedInt Try.underlying34 F m _ rfl M11.out ?hm _ (.string cc.v) _ rfl rfl KD.out ?_; (case hm => have := HMK.out; have := LX.out; have := HLT.out; omega); intro we hme hge; rw [MPT.out] at hme))
                                have HS := Lib.hid (show HM w we g b gs r n F (m + 1) L2 from ⟨⟨pg', ch', V11.out.grown hge (fun k hk => by cases hk; exact ⟨GN.out.2.2.2.1, GN.out.2.2.2.2.1, GN.out.2.2.2.2.2.1, GN.out.2.2.2.2.2.2.1⟩), HC9.out, hme, bl_grow B11.out hge (fun k hk => by cases hk; exact GN.out.2.2.2.2.2.2.2) B11.out.size⟩, ⟨GN.out.2.2.2.1, GN.out.2.2.2.2.1, GN.out.2.2.2.2.2.1, GN.out.2.2.2.2.2.2.1, GN.out.2.2.2.2.2.2.2, Nat.lt_of_lt_of_le F11.out hge.size⟩⟩)
                                clear hme hge V11 B11 K11 M11 F11 HC9 z3 idn
                                go_wp2
                                go_roundw
                                case rel => exact ⟨k + 1, m + 1, L2, by have := HLT.out; omega, by have := HMK.out; omega, by go_num, HS.out⟩
                                case measure => have := HLT.out; simp [intOf]; omega
                      have kzb : (cc.k == 0) = false := by simp [kz]
                      by_cases k1 : cc.k = 1
                      · have k1b : (cc.k == 1) = true := by simp [k1]
                        clear kz k1
                        have CR := Lib.hid (read_any V1.out (n := n) NB.out.2 HC.out cc.id CIB.out)
                        have y2 : w7.cell? ⟨G, 2, none⟩ = some (.int .i64 cc.id) := K1.out.cell 2
                        as_aux_lemma =>
                          go_wp2_with fail
                          refine CR.out.mono ?_
                          rintro e w8 ⟨hpo, hb⟩
                          have M8 := Lib.hid (M1.out.kept hb)
                          have HS := Lib.hid (show HM w w8 g b gs r n F m L from ⟨⟨pg, ch, V1.out.kept hb, HC.out, M1.out.kept hb, below_then B1.out hb B1.out.size⟩, ⟨GN.out.2.2.2.1, GN.out.2.2.2.2.1, GN.out.2.2.2.2.2.1, GN.out.2.2.2.2.2.2.1, GN.out.2.2.2.2.2.2.2, Nat.lt_of_lt_of_le F1.out hb.size⟩⟩)
                          have K8 := Lib.hid (K1.out.kept hb)
                          obtain ⟨er, rfl, hh⟩ : ∃ er : Int, e = .returned (.tuple #[.string sv, .int .i64 er]) ∧ ((er = 0 ∧ hd = true) ∨ (er = 150 ∧ hd = false)) := by
                            rcases HD.out with ⟨e1, hr, e2⟩ | ⟨e1, hr, e2⟩
                            · rcases hpo with ⟨-, rfl⟩ | ⟨hn, -⟩
                              · exact ⟨0, by rw [e2], .inl ⟨rfl, e1⟩⟩
                              · exact absurd hr hn
                            · rcases hpo with ⟨hn, -⟩ | ⟨-, rfl⟩
                              · exact absurd hn hr
                              · exact ⟨150, by rw [e2], .inr ⟨rfl, e1⟩⟩
                          have z2 : w8.cell? ⟨G, 2, none⟩ = some (.int .i64 cc.id) := K8.out.cell 2
                          have e8 : (sv.toList == sv.toList) = true := by simp
                          clear hb hpo CR V1 B1 M1 K1 F1 O1 HC K8 y2
                          rcases hh with ⟨rfl, rfl⟩ | ⟨rfl, rfl⟩
                          all_goals
                            as_aux_lemma =>
                              go_wp2_with (at_lookup; refine wpList_mp_look1_if _ (by first | rfl | kernel_rfl) _ _ 34 rfl 3 9 keyedInt Try.underlying34 (zeroStr _) F m _ rfl M8.out _ _ rfl KI.out ?_; rw [LK.out.1])
                              go_roundw
                              case rel => exact ⟨k + 1, m, L, by have := HLT.out; omega, by have := HMK.out; omega, by go_num, HS.out⟩
                              case measure => have := HLT.out; simp [intOf]; omega
                      have k1b : (cc.k == 1) = false := by simp [k1]
                      by_cases k2 : cc.k = 2
                      · have k2b : (cc.k == 2) = true := by simp [k2]
                        clear kz k1 k2
                        have CR := Lib.hid (update_any V1.out (n := n) NB.out.2 HC.out (by decide) cc.id CIB.out cc.v)
                        have y2 : w7.cell? ⟨G, 2, none⟩ = some (.int .i64 cc.id) := K1.out.cell 2
                        have y3 : w7.cell? ⟨G, 3, none⟩ = some (.string cc.v) := K1.out.cell 3
                        as_aux_lemma =>
                          go_wp2_with fail
                          refine CR.out.mono ?_
                          rintro e w8 hp
                          obtain ⟨u, er, pg', L', rfl, hs, hc, hg, hh⟩ : ∃ (u : Ud) (er : Int) (pg' : Nat → Pg) (L' : Nat → Nat → Ce), e = .returned (.tuple #[.agg u.cs, .int .i64 er]) ∧ (∃ M', SV w8 w.heap.size g b gs r 32 M' pg pg') ∧ Hc (landed er pg pg') n ch L' ∧ w7.grownBy w8 (some b) ∧
                              ((er = 0 ∧ hd = true ∧ fput (keyI (mpL L)) (.int .i64 cc.id) (.string cc.v) = keyI (mpL L')) ∨ ((er = 2 ∨ (er = 150 ∧ hd = false)) ∧ L' = L)) := by
                            rcases hp with ⟨-, rfl, hb⟩ | ⟨-, ⟨hno, rfl, hb⟩ | ⟨p, s, hs6, hid, hpc, hst, rfl, pg', hs, hc, hg⟩⟩
                            · exact ⟨ud0, 2, pg, L, rfl, ⟨0, V1.out.kept hb⟩, by rw [landed_ne (by decide)]; exact HC.out, only_below hb _, .inr ⟨.inl rfl, rfl⟩⟩
                            · refine ⟨ud0, 150, pg, L, rfl, ⟨0, V1.out.kept hb⟩, by rw [landed_ne (by decide)]; exact HC.out, only_below hb _, .inr ⟨.inr ⟨rfl, ?_⟩, rfl⟩⟩
                              rcases HD.out with ⟨-, hr, -⟩ | ⟨e1, -⟩
                              · exact absurd hr hno
                              · exact e1
                            · refine ⟨_, 0, pg', _, rfl, ⟨_, hs⟩, by rw [landed_zero]; exact hc, hg, .inl ⟨rfl, ?_, by rw [hid]; exact mpL_put L p s hs6 cc.v⟩⟩
                              rcases HD.out with ⟨e1, -⟩ | ⟨-, hr, -⟩
                              · exact e1
                              · exact absurd (by rw [hid]; exact (rcP_nat L p s hs6).2 hst) hr
                          obtain ⟨M', hs⟩ := hs
                          have B9 := Lib.hid ((bl_grow B1.out hg (fun k hk => by cases hk; exact V1.out.b_ge) B1.out.size).alloc (Nat.le_trans B1.out.size hg.size) (.cells u.cs 45))
                          have V9 := Lib.hid (hs.alloc (.cells u.cs 45))
                          have K9 := Lib.hid ((K1.out.grown hg (fun e => GN.out.1 (by injection e))).alloc (.cells u.cs 45))
                          have M9 := Lib.hid ((M1.out.grown hg (fun e => GN.out.2.2.2.2.1 (by injection e))).alloc (.cells u.cs 45))
                          have F9 := Lib.hid (show F < (w8.alloc (.cells u.cs 45)).heap.size from Nat.lt_of_lt_of_le F1.out (Nat.le_trans hg.size (by simp)))
                          have HC9 := Lib.hid hc; have HH := Lib.hid hh
                          clear hp hs hg hh CR V1 B1 K1 y3 y2 M1 F1 O1 HC hc
                          as_aux_lemma =>
                            go_wp2_with (refine store_ud_new rfl _ _ rfl u rfl rfl ?_; generalize w8.alloc (.cells u.cs 45) = w10 at *)
                            refine (land_full V9.out B9.out er).mono ?_
                            rintro e w11 ⟨rfl, hs, hb, hoth⟩
                            have V11 := Lib.hid hs; have B11 := Lib.hid hb; have K11 := Lib.hid (hoth.bk K9.out GN.out.1 GN.out.2.1)
                            have M11 := Lib.hid (M9.out.of_block (hoth.2 F F9.out GN.out.2.2.2.2.1 GN.out.2.2.2.2.2.2.1))
                            have F11 := Lib.hid (Nat.lt_of_lt_of_le F9.out hoth.1)
                            have z2 : w11.cell? ⟨G, 2, none⟩ = some (.int .i64 cc.id) := K11.out.cell 2
                            have z3 : w11.cell? ⟨G, 3, none⟩ = some (.string cc.v) := K11.out.cell 3
                            clear hs hb V9 B9 K9 M9 F9 hoth
                            rcases HH.out with ⟨rfl, rfl, hpt⟩ | ⟨hne, rfl⟩
                            · have MPT := Lib.hid hpt
                              clear hpt HH
                              as_aux_lemma =>
                                go_wp2_with (at_mapUpdate; refine wpList_mp_store _ rfl _ _ _ 34 rfl 3 9 keyedInt Try.underlying34 F m _ rfl M11.out ?hm _ (.string cc.v) _ rfl rfl KI.out ?_; (case hm => have := HMK.out; have := LX.out; have := HLT.out; omega); intro we hme hge; rw [MPT.out] at hme)
                                have HS := Lib.hid (show HM w we g b gs r n F (m + 1) L' from ⟨⟨_, ch, V11.out.grown hge (fun k hk => by cases hk; exact ⟨GN.out.2.2.2.1, GN.out.2.2.2.2.1, GN.out.2.2.2.2.2.1, GN.out.2.2.2.2.2.2.1⟩), HC9.out, hme, bl_grow B11.out hge (fun k hk => by cases hk; exact GN.out.2.2.2.2.2.2.2) B11.out.size⟩, ⟨GN.out.2.2.2.1, GN.out.2.2.2.2.1, GN.out.2.2.2.2.2.1, GN.out.2.2.2.2.2.2.1, GN.out.2.2.2.2.2.2.2, Nat.lt_of_lt_of_le F11.out hge.size⟩⟩)
                                clear hme hge V11 B11 K11 M11 F11 HC9 z2 z3
                                go_wp2
                                go_roundw
                                case rel => exact ⟨k + 1, m + 1, L', by have := HLT.out; omega, by have := HMK.out; omega, by go_num, HS.out⟩
                                case measure => have := HLT.out; simp [intOf]; omega
                            · have HS := Lib.hid (show HM w w11 g b gs r n F m L' from ⟨⟨_, ch, V11.out, HC9.out, M11.out, B11.out⟩, ⟨GN.out.2.2.2.1, GN.out.2.2.2.2.1, GN.out.2.2.2.2.2.1, GN.out.2.2.2.2.2.2.1, GN.out.2.2.2.2.2.2.2, F11.out⟩⟩)
                              clear HH V11 B11 K11 M11 F11 HC9 z2 z3
                              rcases hne with rfl | ⟨rfl, rfl⟩
                              all_goals
                                as_aux_lemma =>
                                  go_wp2
                                  go_roundw
                                  case rel => exact ⟨k + 1, m, L', by have := HLT.out; omega, by have := HMK.out; omega, by go_num, HS.out⟩
                                  case measure => have := HLT.out; simp [intOf]; omega
                      have k2b : (cc.k == 2) = false := by simp [k2]
                      by_cases k3 : cc.k = 3
                      · have k3b : (cc.k == 3) = true := by simp [k3]
                        clear kz k1 k2 k3
                        have CR := Lib.hid (delete_any V1.out (n := n) NB.out.2 HC.out (by decide) cc.id CIB.out)
                        have y2 : w7.cell? ⟨G, 2, none⟩ = some (.int .i64 cc.id) := K1.out.cell 2
                        as_aux_lemma =>
                          go_wp2_with fail
                          refine CR.out.mono ?_
                          rintro e w8 hp
                          obtain ⟨u, er, pg', L', rfl, hs, hc, hg, hh, hpt⟩ : ∃ (u : Ud) (er : Int) (pg' : Nat → Pg) (L' : Nat → Nat → Ce), e = .returned (.tuple #[.agg u.cs, .int .i64 er]) ∧ (∃ M', SV w8 w.heap.size g b gs r 32 M' pg pg') ∧ Hc (landed er pg pg') n ch L' ∧ w7.grownBy w8 (some b) ∧
                              ((er = 0 ∧ hd = true) ∨ (er = 150 ∧ hd = false)) ∧ fdel (keyI (mpL L)) (.int .i64 cc.id) = keyI (mpL L') := by
                            rcases hp with ⟨hno, rfl, hb⟩ | ⟨p, s, hs6, hid, hpc, hst, rfl, pg', hs, hc, hg⟩
                            · refine ⟨ud0, 150, pg, L, rfl, ⟨0, V1.out.kept hb⟩, by rw [landed_ne (by decide)]; exact HC.out, only_below hb _, .inr ⟨rfl, ?_⟩, mpL_del_no L hno⟩
                              rcases HD.out with ⟨-, hr, -⟩ | ⟨e1, -⟩
                              · exact absurd hr hno
                              · exact e1
                            · refine ⟨_, 0, pg', _, rfl, ⟨_, hs⟩, by rw [landed_zero]; exact hc, hg, .inl ⟨rfl, ?_⟩, by rw [hid]; exact mpL_del L p s hs6 _ (show (2 : Int) ≠ 1 by decide)⟩
                              rcases HD.out with ⟨e1, -⟩ | ⟨-, hr, -⟩
                              · exact e1
                              · exact absurd (by rw [hid]; exact (rcP_nat L p s hs6).2 hst) hr
                          obtain ⟨M', hs⟩ := hs
                          have B9 := Lib.hid ((bl_grow B1.out hg (fun k hk => by cases hk; exact V1.out.b_ge) B1.out.size).alloc (Nat.le_trans B1.out.size hg.size) (.cells u.cs 45))
                          have V9 := Lib.hid (hs.alloc (.cells u.cs 45))
                          have K9 := Lib.hid ((K1.out.grown hg (fun e => GN.out.1 (by injection e))).alloc (.cells u.cs 45))
                          have M9 := Lib.hid ((M1.out.grown hg (fun e => GN.out.2.2.2.2.1 (by injection e))).alloc (.cells u.cs 45))
                          have F9 := Lib.hid (show F < (w8.alloc (.cells u.cs 45)).heap.size from Nat.lt_of_lt_of_le F1.out (Nat.le_trans hg.size (by simp)))
                          have HC9 := Lib.hid hc; have HH := Lib.hid hh; have MPT := Lib.hid hpt
                          clear hp hs hg hh hpt CR V1 B1 K1 y2 M1 F1 O1 HC hc
                          as_aux_lemma =>
                            go_wp2_with (refine store_ud_new rfl _ _ rfl u rfl rfl ?_; generalize w8.alloc (.cells u.cs 45) = w10 at *)
                            refine (land_full V9.out B9.out er).mono ?_
                            rintro e w11 ⟨rfl, hs, hb, hoth⟩
                            have V11 := Lib.hid hs; have B11 := Lib.hid hb; have K11 := Lib.hid (hoth.bk K9.out GN.out.1 GN.out.2.1)
                            have M11 := Lib.hid (M9.out.of_block (hoth.2 F F9.out GN.out.2.2.2.2.1 GN.out.2.2.2.2.2.2.1))
                            have F11 := Lib.hid (Nat.lt_of_lt_of_le F9.out hoth.1)
                            have z2 : w11.cell? ⟨G, 2, none⟩ = some (.int .i64 cc.id) := K11.out.cell 2
                            clear hs hb V9 B9 K9 M9 F9 hoth
                            rcases HH.out with ⟨rfl, rfl⟩ | ⟨rfl, rfl⟩
                            all_goals
                              clear HH
                              as_aux_lemma =>
                                go_wp2_with (at_delete; refine wpList_mp_delete _ rfl _ _ 34 3 rfl 9 keyedInt Try.underlying34 F m _ rfl M11.out _ _ rfl KI.out ?_; intro we hme hge; rw [MPT.out] at hme)
                                have HS := Lib.hid (show HM w we g b gs r n F m L' from ⟨⟨_, ch, V11.out.grown hge (fun k hk => by cases hk; exact ⟨GN.out.2.2.2.1, GN.out.2.2.2.2.1, GN.out.2.2.2.2.2.1, GN.out.2.2.2.2.2.2.1⟩), HC9.out, hme, bl_grow B11.out hge (fun k hk => by cases hk; exact GN.out.2.2.2.2.2.2.2) B11.out.size⟩, ⟨GN.out.2.2.2.1, GN.out.2.2.2.2.1, GN.out.2.2.2.2.2.1, GN.out.2.2.2.2.2.2.1, GN.out.2.2.2.2.2.2.2, Nat.lt_of_lt_of_le F11.out hge.size⟩⟩)
                                clear hme hge V11 B11 K11 M11 F11 HC9 z2
                                go_wp2
                                go_roundw
                                case rel => exact ⟨k + 1, m, L', by have := HLT.out; omega, by have := HMK.out; omega, by go_num, HS.out⟩
                                case measure => have := HLT.out; simp [intOf]; omega
                      have k3b : (cc.k == 3) = false := by simp [k3]
                      have HS := Lib.hid (show HM w w7 g b gs r n F m L from ⟨⟨pg, ch, V1.out, HC.out, M1.out, B1.out⟩, ⟨GN.out.2.2.2.1, GN.out.2.2.2.2.1, GN.out.2.2.2.2.2.1, GN.out.2.2.2.2.2.2.1, GN.out.2.2.2.2.2.2.2, F1.out⟩⟩)
                      clear V1 B1 M1 K1 F1 O1 HC kz k1 k2 k3
                      as_aux_lemma =>
                        go_wp2
                        go_roundw
                        case rel => exact ⟨k + 1, m, L, by have := HLT.out; omega, by have := HMK.out; omega, by go_num, HS.out⟩
                        case measure => have := HLT.out; simp [intOf]; omega
                · obtain rfl : k = len := by omega
                  clear hlt hk CAT CBD
                  have CLS := Lib.hid (list_any V.out (n := n) NB.out.2 HC.out)
                  as_aux_lemma =>
                    go_wp2_with fail
                    refine CLS.out.mono ?_
                    rintro e w2 ⟨x, l, rfl, hl, h6, ho, hb⟩
                    obtain ⟨xa, xc, rfl⟩ := ow_slice ho
                    have M2 := Lib.hid (MP.out.kept hb); have B2 := Lib.hid (below_then BW.out hb BW.out.size); have LP := Lib.hid hl; have OW := Lib.hid ho
                    have ML := Lib.hid (fun ty => map_len M2.out hl ty)
                    obtain ⟨lm, hlm⟩ : ∃ lm, lm = l.length := ⟨_, rfl⟩
                    have HLM := Lib.hid hlm
                    have M6 := Lib.hid h6
                    rw [← hlm] at ho M6 ML
                    rw [← hlm]
                    have m6 : lm ≤ 6144 := M6.out
                    have FL := Lib.hid (show F < wr.heap.size from FE.out.2.2.2.2.2)
                    have PLT := Lib.hid (show ∀ p s : Nat, (L p s).st = 1 → p < 32 from fun p s h => by have h1 := (HC.out.mem (HC.out.rc_mem h)).2; have := NB.out; omega)
                    obtain ⟨PB, hPB⟩ : ∃ PB, PB = wr.heap.size := ⟨_, rfl⟩
                    rw [← hPB] at OW FL
                    clear hl h6 ho hb hlm CLS V BW MP HC FE hPB
                    as_aux_lemma =>
                      go_wp2_with (refine wpList_mp_len_if _ (by first | rfl | kernel_rfl) _ 34 rfl F rfl (lm : Int) ML.out ?_)
                      go_loopw [209] (fun i wr => ∃ t : Nat, t ≤ lm ∧ i = .int .i64 t ∧ Mp wr Try.prog 3 F m (keyI (mpL L)) ∧ Below w.heap.size w wr ∧ wr.ownsRow PB 57 3 (.slice xa lm xc) lm (pairL l)) (fun i _ => lm - (intOf i).toNat)
                      case atStart => exact ⟨0, Nat.zero_le _, rfl, M2.out, B2.out, by have h := OW.out; rw [← HLM.out] at h; exact h⟩
                      case round =>
                        clear M2 B2 OW
                        obtain ⟨t, ht, rfl, hmp, hb, ho⟩ := hrel
                        by_cases hlt : t < lm
                        · have HLT := Lib.hid hlt
                          have htb : t < 9223372036854775807 := by have := M6.out; omega
                          have hkl : t < l.length := by rw [← HLM.out]; exact hlt
                          obtain ⟨g2, cap2, e2, hb2, hl2, hr2⟩ := pair_at (by rw [← HLM.out]; exact ho) t hkl
                          rw [← HLM.out] at e2
                          obtain ⟨rfl, rfl⟩ : xa = some ⟨g2, 0, none⟩ ∧ xc = cap2 := by simpa using e2
                          have hrc := (LP.out.mem l[t]).1 (List.getElem_mem hkl)
                          have HLK := Lib.hid (show keyI (mpL L) (.int .i64 l[t].1) = some (.string l[t].2) from by rw [mpL_yes hrc.1, ← hrc.2])
                          have hin : in64 l[t].1 := by
                            obtain ⟨p, s, hs6, e, hst⟩ := rcP_ex hrc.1
                            unfold in64
                            have h1 := PLT.out p s hst
                            omega
                          have KX := Lib.hid (keyOf_int_mk (P := Try.prog) Try.underlying3 (WalkArith.wf_i64 (n := l[t].1) hin))
                          have PRV := Lib.hid (show 0 < t → ∃ y : Int, (∀ w' : World, w'.rangeAt g2 ((t - 1) * 3) (encP (l.getD (t - 1) (0, ⟨#[]⟩))) → w'.cell? ⟨g2, (t - 1) * 3 + 1, none⟩ = some (.int .i64 y)) ∧ y < l[t].1 from fun h0 => ⟨(l.getD (t - 1) (0, ⟨#[]⟩)).1, fun w' h => h 1 _ rfl, by
                            rw [List.getD_eq_getElem?_getD, List.getElem?_eq_getElem (by omega)]
                            exact (List.pairwise_iff_getElem.1 LP.out.sort) (t - 1) t (by omega) hkl (by omega)⟩)
                          have RPV := Lib.hid (show 0 < t → wr.rangeAt g2 ((t - 1) * 3) (encP (l.getD (t - 1) (0, ⟨#[]⟩))) from fun h0 => by
                            obtain ⟨g3, cap3, e3, -, -, hr3⟩ := pair_at (by rw [← HLM.out]; exact ho) (t - 1) (by omega)
                            rw [← HLM.out] at e3
                            obtain ⟨rfl, -⟩ : g2 = g3 ∧ xc = cap3 := by simpa using e3
                            rw [List.getD_eq_getElem?_getD, List.getElem?_eq_getElem (by omega)]
                            exact hr3)
                          obtain ⟨pr, hpr⟩ : ∃ pr, pr = l[t] := ⟨_, rfl⟩
                          rw [← hpr] at hr2 HLK KX PRV
                          have RK := Lib.hid hr2
                          have G2 := Lib.hid hl2
                          have M1 := Lib.hid (hmp.alloc (.cells #[.string ⟨#[]⟩, .int .i64 pr.1, .string pr.2] 57))
                          have B1 := Lib.hid (hb.alloc hb.size (.cells #[.string ⟨#[]⟩, .int .i64 pr.1, .string pr.2] 57))
                          have K1 := Lib.hid (Bk.new wr 57 #[.string ⟨#[]⟩, .int .i64 pr.1, .string pr.2])
                          have O1 := Lib.hid (ho.alloc (.cells #[.string ⟨#[]⟩, .int .i64 pr.1, .string pr.2] 57))
                          have R1 := Lib.hid (show 0 < t → (wr.alloc (.cells #[.string ⟨#[]⟩, .int .i64 pr.1, .string pr.2] 57)).rangeAt g2 ((t - 1) * 3) (encP (l.getD (t - 1) (0, ⟨#[]⟩))) from fun h0 j u hu =>
                            (((Below.refl wr.heap.size wr).alloc (Nat.le_refl _) (.cells #[.string ⟨#[]⟩, .int .i64 pr.1, .string pr.2] 57)).cell (p := ⟨g2, (t - 1) * 3 + j, none⟩) G2.out).trans (RPV.out h0 j u hu))
                          clear hmp hb ho e2 hb2 hl2 hr2 hrc hpr hkl hin RPV G2
                          as_aux_lemma =>
                            go_upto_region 52 with (refine load_pair rfl _ rfl g2 (t * 3) pr rfl RK.out ?_)
                            generalize wr.alloc (.cells #[.string ⟨#[]⟩, .int .i64 pr.1, .string pr.2] 57) = w7 at *
                            obtain ⟨P, hP⟩ : ∃ P, P = wr.heap.size := ⟨_, rfl⟩
                            rw [← hP] at K1 ⊢
                            clear hP RK
                            have x1 : w7.cell? ⟨P, 1, none⟩ = some (.int .i64 pr.1) := K1.out.cell 1
                            have x2 : w7.cell? ⟨P, 2, none⟩ = some (.string pr.2) := K1.out.cell 2
                            have e8 : (pr.2.toList == pr.2.toList) = true := by simp
                            by_cases t0 : 0 < t
                            · obtain ⟨y, hy, hlty⟩ := PRV.out t0
                              have x3 := hy w7 (R1.out t0)
                              obtain ⟨q, rfl⟩ : ∃ q, t = q + 1 := ⟨t - 1, by omega⟩
                              rw [show q + 1 - 1 = q by omega] at x3
                              have hle : ¬ pr.1 ≤ y := by omega
                              have hled : decide (pr.1 ≤ y) = false := decide_eq_false hle
                              have qlt : q < lm := by omega
                              clear hy hlty PRV R1
                              as_aux_lemma =>
                                go_upto_region 53 with (at_lookup; refine wpList_mp_look _ rfl _ _ 34 rfl 3 9 keyedInt Try.underlying34 (zeroStr _) F m _ rfl M1.out _ _ rfl KX.out ?_; rw [HLK.out]; simp only [Option.getD_some, Option.isSome_some])
                                have hqp : (0 : Int) < ((q + 1 : Nat) : Int) := by omega
                                have hqd : decide ((0 : Int) < ((q + 1 : Nat) : Int)) = true := decide_eq_true hqp
                                go_quiet (fail)
                                go_wp2
                                go_roundw
                                case rel => exact ⟨q + 1 + 1, by have := HLT.out; omega, by go_num, M1.out.drewN _, below_drewN B1.out _, O1.out⟩
                                case measure => have := HLT.out; simp [intOf]; omega
                            · obtain rfl : t = 0 := by omega
                              clear PRV R1
                              as_aux_lemma =>
                                go_upto_region 53 with (at_lookup; refine wpList_mp_look _ rfl _ _ 34 rfl 3 9 keyedInt Try.underlying34 (zeroStr _) F m _ rfl M1.out _ _ rfl KX.out ?_; rw [HLK.out]; simp only [Option.getD_some, Option.isSome_some])
                                go_quiet (fail)
                                go_wp2
                                go_roundw
                                case rel => exact ⟨0 + 1, by have := HLT.out; omega, by go_num, M1.out.drewN _, below_drewN B1.out _, O1.out⟩
                                case measure => have := HLT.out; simp [intOf]; omega
                        · obtain rfl : t = lm := by omega
                          have BF := Lib.hid hb
                          clear hmp hb ho hlt ht
                          as_aux_lemma =>
                            go_wp2
                            go_ret
                            exact ⟨rfl, BF.out⟩
end Go.Proofs.Ytdhfcjplnbnkdaa
