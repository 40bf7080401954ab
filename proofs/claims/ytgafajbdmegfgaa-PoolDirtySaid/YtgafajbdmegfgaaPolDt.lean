/- PoolDirty. -/
import Derived.Test.YtgafajbdmegfgaaPolVw
import Derived.Test.YtgafajbdmegfgaaPolAw
import Derived.Test.YtgafajbdmegfgaaMap
import Derived.Deep.DeepCutAuto
import Derived.Deep.CutBlock
set_option linter.unusedVariables false
set_option linter.unusedSimpArgs false
namespace Go.Proofs.Ytgafajbdmegfgaa
open Go.RowKit Go.Maps Go.ChangeMaps Go.MapKept

theorem keyedInt : Keyed Try.prog 3 := int_keyed Try.underlying3
theorem zeroBool (w : World) : (zeroValue 4).run Try.prog w = .ok (.bool false) w := by kernel_rfl
def setV (K : List Int) : Int → Option Value := fun x => if x ∈ K then some (.bool true) else none
theorem setV_get (K : List Int) (x : Int) : (keyI (setV K) (.int .i64 x)).getD (.bool false) = .bool (decide (x ∈ K)) := by
  rw [keyI_at]
  unfold setV
  by_cases h : x ∈ K <;> simp [h]
theorem setV_nil : (fun _ => none) = keyI (setV []) := by
  funext kl
  cases kl with
  | int q x =>
    cases q <;> try rfl
  | _ => rfl
def addK (K : List Int) (x : Int) : List Int := if x ∈ K then K else x :: K
theorem addK_mem {K : List Int} {x y : Int} : y ∈ addK K x ↔ y = x ∨ y ∈ K := by
  unfold addK
  by_cases h : x ∈ K
  · rw [if_pos h]; exact ⟨.inr, fun e => e.elim (fun e => e ▸ h) id⟩
  · rw [if_neg h, List.mem_cons]
theorem addK_nodup {K : List Int} (h : K.Nodup) (x : Int) : (addK K x).Nodup := by
  unfold addK
  by_cases hx : x ∈ K
  · rw [if_pos hx]; exact h
  · rw [if_neg hx, List.nodup_cons]; exact ⟨hx, h⟩
theorem setV_put (K : List Int) (x : Int) : fput (keyI (setV K)) (.int .i64 x) (.bool true) = keyI (setV (addK K x)) := by
  rw [keyI_put]
  refine congrArg keyI (funext fun y => ?_)
  unfold setV
  by_cases e : y = x
  · subst e; rw [if_pos rfl, if_pos (addK_mem.2 (.inl rfl))]
  · rw [if_neg e]
    by_cases h : y ∈ K
    · rw [if_pos h, if_pos (addK_mem.2 (.inr h))]
    · rw [if_neg h, if_neg (fun h2 => (addK_mem.1 h2).elim e h)]
theorem setV_len {w : World} {F m : Nat} {K : List Int} (h : Mp w Try.prog 3 F m (keyI (setV K))) (hn : K.Nodup) (ty : TypeId) : (Builtin.len_ #[64] ty #[.map (some F)]).run Try.prog w = .ok (.int .i64 K.length) w :=
  h.len keyedInt Try.underlying64 ty K hn fun x => by
    unfold setV
    by_cases h : x ∈ K <;> simp [h]
theorem mp_pi {w w' : World} {B F m : Nat} {f : Lit → Option Value} (h : Mp w Try.prog 3 F m f) (ho : Out w w' (PI B w)) : Mp w' Try.prog 3 F m f :=
  h.of_block (ho.block F h.lt fun ⟨_, t, cs, hc, _⟩ => h.ne_bk hc rfl)
section
variable {P : Program} (w : World) {ops : Array Oper} {rest : List Oper} {o : Oper} {a : Act} {Q : Exit → Act → World → Prop}
theorem wpList_mp_len_if (hw : Region.wanted o (yielded ops a.tmps) = true) (m : Operand) (t : TypeId) (hop : o.op = Op.call { callee := Callee.builtin Builtin.len, args := #[m], argTypes := #[t] }) (b : Nat) (hm : a.eval m = .map (some b)) (x : Int)
    (hr : ∀ ty, (Builtin.len_ #[t] ty #[.map (some b)]).run P w = .ok (.int .i64 x) w) (hK : wpList P ops Q rest (a.put o.dst (.int .i64 x)) w) : wpList P ops Q (o :: rest) a w := by
  refine wpList_step fun K' hK' => ?_
  rw [if_pos hw]
  unfold Oper.wp
  simp [execOp, hop, resolve, invoke, builtin, hm, hr, Result.andThen]
  exact hK' _ _ hK
theorem load_cpp_if (hw : Region.wanted o (yielded ops a.tmps) = true) (x : Operand) (ho : o.op = .load 40 x) (b : Nat) (s : Cp) (hx : a.eval x = .pointer (some ⟨b, 2, none⟩)) (hb : Bk w b 42 s.cs)
    (h : wpList Try.prog ops Q rest (a.put o.dst (.agg s.p.cs)) w) : wpList Try.prog ops Q (o :: rest) a w := by
  refine wpList_step fun K hK => ?_
  rw [if_pos hw]
  exact wp_load_mid 40 x ho b 2 hx s.p.cs.toList _ (fun i v hv => by
    rw [hb.cell]
    have hi : i < 16 := (List.getElem?_eq_some_iff.1 hv).1
    have : s.cs[2 + i]? = s.p.cs.toList[i]? := by
      rw [← Array.getElem?_toList]
      show (Value.int .i64 s.k :: .int .i64 s.id :: (s.p.cs.toList ++ [.string s.v]))[2 + i]? = _
      rw [Nat.add_comm, List.getElem?_cons_succ, List.getElem?_cons_succ, List.getElem?_append_left (by show i < 16; exact hi)]
    rw [this]; exact hv) Try.underlying40 rfl (by rw [show s.p.cs.toList.length = 16 from rfl]; kernel_rfl) (by simpa using hK _ _ h)
end
theorem apF_cases {F : Nat} (hF : F ≤ 6966) (z : Nat) : ((apF F z).2.2 = 0 ∧ F + 3 ≤ (apF F z).1 ∧ (apF F z).2.1 = F) ∨ ((apF F z).2.2 ≠ 0 ∧ (apF F z).1 = F) := by
  unfold apF
  split
  · exact .inr ⟨show (1 : Int) ≠ 0 by decide, rfl⟩
  split
  · exact .inr ⟨show (2 : Int) ≠ 0 by decide, rfl⟩
  split
  · exact .inr ⟨show (70 : Int) ≠ 0 by decide, rfl⟩
  · exact .inl ⟨rfl, by show F + 3 ≤ F + (2 + z); omega, rfl⟩
/-- Between two calls of PoolDirty. -/
def PdI (w0 w : World) (B gd gl gp fr : Nat) (s11 : Value) (m : Nat) : Prop :=
  ∃ (F Fn : Nat) (K : List Int) (Now : Nat → Pg) (St : Nat → Nat), s11 = .map (some F) ∧ Vw w B gd gl gp 8 fr Fn (4102 * Fn) Now St (fun x => x ∈ K) ∧ Mp w Try.prog 3 F m (keyI (setV K)) ∧ K.Nodup ∧ w0.heap.size ≤ F ∧ Below w0.heap.size w0 w
set_option maxRecDepth 100000 in
set_option maxHeartbeats 16000000 in
theorem walk_PoolDirty (v : Value) (cl : List Cp) (f : Int) (w : World) (hq : IsCps w v cl) (hf1 : -9223372036854775808 ≤ f) (hf2 : f ≤ 9223372036854775807) :
    Calls Try.prog 6 #[v, .int .i64 f] w fun e w' => e = .returned (.bool true) ∧ Below w.heap.size w w' := by
  have CAT := Lib.hid hq.at_; have CBD := Lib.hid hq.bd
  obtain ⟨a, c, rfl, -⟩ := CAT.out
  have hl0 := hq.len
  obtain ⟨len, hlen⟩ : ∃ len, len = cl.length := ⟨_, rfl⟩
  have HLN := Lib.hid hlen
  rw [← hlen] at hl0 ⊢
  have LM := Lib.hid (show len ≤ 9223372036854775807 by simp only [maxLen] at hl0; omega)
  clear hq hlen hl0
  have CA := Lib.hid (awake12_any w)
  go_enter Try.func6, Try.ntmps6
  go_wp2_with fail
  refine CA.out.mono ?_
  rintro e w1 ⟨rfl, hb⟩
  have B1 := Lib.hid hb
  clear hb CA
  as_aux_lemma =>
    by_cases c4 : f < 4
    · go_wp2
      go_ret
      exact ⟨rfl, B1.out⟩
    by_cases c64 : 64 < f
    · go_wp2
      go_ret
      exact ⟨rfl, B1.out⟩
    by_cases c100 : (100 : Int) < (len : Int)
    · go_wp2
      go_ret
      exact ⟨rfl, B1.out⟩
    obtain ⟨fr, rfl⟩ : ∃ fr : Nat, f = (fr : Int) := ⟨f.toNat, by omega⟩
    have FR := Lib.hid (show 4 ≤ fr ∧ fr ≤ 64 by omega)
    have LL := Lib.hid (show len ≤ 100 by omega)
    have N4 := Lib.hid c4; have N64 := Lib.hid c64
    as_aux_lemma =>
      have CN := new_good 160 w1 (by omega) (by omega)
      rw [show ((160 : Nat) : Int) = 160 from rfl] at CN
      have CN := Lib.hid CN
      go_wp2_with fail
      refine CN.out.mono ?_
      rintro e w2 ⟨I, rfl, hd, hb⟩
      have D2 := Lib.hid hd; have B2 := Lib.hid hb
      have CC := create_good 160 0 128 hd (by omega) (by omega) (by omega) hb.size
      rw [show ((0 : Nat) : Int) = 0 from rfl, show ((128 : Nat) : Int) = 128 from rfl] at CC
      have CC := Lib.hid CC
      clear hd hb CN
      obtain ⟨gd, df, dn, dfc, dnc, dp⟩ := I
      unfold Ids.ptr at *
      dsimp only at *
      go_wp2_with fail
      refine CC.out.mono ?_
      rintro e w3 ⟨gl, p', rfl, hw, hb⟩
      have B3 := Lib.hid (B2.out.trans hb)
      have W3 := Lib.hid hw
      have CP := pnew_good hw 128 8 fr (by omega) (by omega) (by have := FR.out; omega) (by have := FR.out; omega) (by simp [Dsk.start, blanks]) (Nat.le_trans B2.out.size hb.size)
      unfold Ids.ptr Wd.ptr Ids.with at CP
      dsimp only at CP
      rw [show ((128 : Nat) : Int) = 128 from rfl, show ((8 : Nat) : Int) = 8 from rfl] at CP
      have CP := Lib.hid CP
      clear hw hb CC B2 D2
      go_wp2_with fail
      refine CP.out.mono ?_
      rintro e w4 ⟨gp, rfl, hq, hb⟩
      have V4 := Lib.hid (show Vw w4 w1.heap.size gd gl gp 8 fr 54 0 (fun _ => Pg.zero) (fun _ => 0) (fun _ => False) from Vw.new (by rfl) W3.out hb hq B3.out.size)
      have B4 := Lib.hid (B1.out.trans ((below_then B3.out hb B3.out.size).mono B1.out.size))
      clear hq hb CP W3 B3
      as_aux_lemma =>
        have hmm := @run_makeMap Try.prog
        go_upto_region 11 with fail
        clear hmm
        have V5 := Lib.hid (V4.out.alloc (.map #[] 0))
        have M5 := Lib.hid ((Mp.made w4 Try.prog 3).congr setV_nil)
        have B5 := Lib.hid (B4.out.alloc B4.out.size (.map #[] 0))
        have HS := Lib.hid B4.out.size; have SB := Lib.hid B1.out.size
        have PI5 := Lib.hid (show PdI w (w4.alloc (.map #[] 0)) w1.heap.size gd gl gp fr (.map (some w4.heap.size)) 0 from ⟨_, _, [], _, _, rfl, V5.out.weak (Nat.zero_le _) (fun x hx => hx.elim), M5.out, .nil, HS.out, B5.out⟩)
        generalize w4.alloc (.map #[] 0) = w5 at *
        generalize w4.heap.size = F0 at *
        clear V4 V5 M5 B4 B5 HS B1 c4 c64 c100
        generalize w1.heap.size = Bs at *
        as_aux_lemma =>
          go_wp2_with fail
          go_loopw [11, 53] (fun s11 i wr => ∃ k : Nat, k ≤ len ∧ i = .int .i64 k ∧ PdI w wr Bs gd gl gp fr s11 k) (fun _ i _ => len - (intOf i).toNat)
          case atStart => exact ⟨0, Nat.zero_le _, rfl, PI5.out⟩
          case round =>
            clear PI5
            obtain ⟨k, hk, rfl, F, Fn, K, Now, St, rfl, hv, hm, hn, hF, hb⟩ := hrel
            have V := Lib.hid hv; have MP := Lib.hid hm; have BW := Lib.hid hb; have KN := Lib.hid hn; have HF := Lib.hid hF
            clear hv hm hn hF hb
            by_cases hlt : k < len
            · have HLT := Lib.hid hlt
              have hkb : k < 9223372036854775807 := by have := LM.out; omega
              have hkc : k < cl.length := by rw [← HLN.out]; exact hlt
              obtain ⟨cc, hcc⟩ : ∃ cc, cc = cl[k] := ⟨_, rfl⟩
              have OK := Lib.hid (CBD.out _ (List.getElem_mem hkc))
              obtain ⟨a', c', e1, hat⟩ := CAT.out.below BW.out
              obtain ⟨b1, off, e2, hb1, hra⟩ := hat (by omega)
              rw [← HLN.out] at e1
              obtain ⟨rfl, rfl⟩ : a = some ⟨b1, off, none⟩ ∧ c = c' := by rw [e2] at e1; simpa using e1
              have RK := Lib.hid (hra k cl[k] (List.getElem?_eq_getElem hkc))
              rw [← hcc] at OK RK
              clear e1 hat e2 hb1 hra hcc hkc
              have V1 := Lib.hid (V.out.alloc (.cells cc.cs 42))
              have B1 := Lib.hid (BW.out.alloc BW.out.size (.cells cc.cs 42))
              have K1 := Lib.hid (Bk.new wr 42 cc.cs)
              have M1 := Lib.hid (MP.out.alloc (.cells cc.cs 42))
              clear V BW MP
              as_aux_lemma =>
                go_upto_region 14 with (first | (refine load_cp_off rfl _ rfl b1 off k cc rfl RK.out ?_) | (refine store_cp_new rfl _ _ rfl cc rfl rfl ?_))
                generalize wr.alloc (.cells cc.cs 42) = w7 at *
                clear RK
                obtain ⟨G, hG⟩ : ∃ G, G = wr.heap.size := ⟨_, rfl⟩
                rw [← hG] at K1 ⊢
                clear hG
                have FN := Lib.hid V1.out.fin_le
                have SZ := Lib.hid V1.out.hB
                have y0 : w7.cell? ⟨G, 0, none⟩ = some (.int .i64 cc.k) := K1.out.cell 0
                have y1 : w7.cell? ⟨G, 1, none⟩ = some (.int .i64 cc.id) := K1.out.cell 1
                have y3 : w7.cell? ⟨G, 18, none⟩ = some (.string cc.v) := K1.out.cell 18
                have PCT := Lib.hid (show ¬ plI 42 by unfold plI plT; decide)
                as_aux_lemma =>
                  go_upto_block 2 with fail
                  go_cut [11] (fun s11 wx => PdI w wx Bs gd gl gp fr s11 (k + 1))
                  case first =>
                    by_cases k1 : cc.k = 1
                    · have k1b : (cc.k == 1) = true := by simp [k1]
                      --@Vk1
                      have CAp := Lib.hid (vw_append V1.out cc.v OK.out.len)
                      have hap := apF_cases FN.out.2 cc.v.size
                      obtain ⟨⟨F2, at_, er⟩, hrr⟩ : ∃ r, r = apF Fn cc.v.size := ⟨_, rfl⟩
                      rw [← hrr] at CAp hap
                      dsimp only at CAp hap
                      clear hrr k1
                      as_aux_lemma =>
                        go_wp2_with fail
                        refine CAp.out.mono ?_
                        rintro e w8 ⟨rfl, hv, ho⟩
                        have V8 := Lib.hid hv; have M8 := Lib.hid (mp_pi M1.out ho); have K8 := Lib.hid (bk_pi ho K1.out PCT.out); have B8 := Lib.hid (B1.out.trans ((pi_below ho SZ.out).mono SB.out))
                        clear hv ho CAp V1 M1 K1 B1 y0 y1 y3
                        as_aux_lemma =>
                          rcases hap with ⟨rfl, hF2, hat⟩ | ⟨hne, hFe⟩
                          · have HAT := Lib.hid hat; have HF2 := Lib.hid hF2
                            clear hat hF2
                            have z1 : w8.cell? ⟨G, 1, none⟩ = some (.int .i64 cc.id) := K8.out.cell 1
                            have CPu := Lib.hid (vw_put V8.out cc.id cc.p at_ (by have := FN.out; have := HAT.out; omega) (by have := FN.out; omega))
                            go_wp2_with (refine load_cpp_if _ (by first | rfl | kernel_rfl) _ rfl G cc rfl K8.out ?_)
                            refine CPu.out.mono ?_
                            rintro e w9 ⟨⟨-, rfl, hv⟩ | ⟨-, rfl, hv⟩, ho⟩
                            · have V9 := Lib.hid hv; have M9 := Lib.hid (mp_pi M8.out ho); have K9 := Lib.hid (bk_pi ho K8.out PCT.out); have B9 := Lib.hid (B8.out.trans ((pi_below ho V8.out.hB).mono SB.out))
                              clear hv ho CPu V8 M8 K8 B8 z1
                              have z1 : w9.cell? ⟨G, 1, none⟩ = some (.int .i64 cc.id) := K9.out.cell 1
                              have KI := Lib.hid (keyOf_int_mk (P := Try.prog) Try.underlying3 (WalkArith.wf_i64 (n := cc.id) OK.out.id))
                              go_wp2_with (at_mapUpdate; refine wpList_mp_store _ rfl _ _ _ 64 rfl 3 4 keyedInt Try.underlying64 F k _ rfl M9.out ?hm _ (.bool true) _ rfl rfl KI.out ?_; (case hm => have := LL.out; have := HLT.out; simp only [maxLen]; omega); intro we hme hge; rw [setV_put] at hme)
                              have HS := Lib.hid (show PdI w we Bs gd gl gp fr (.map (some F)) (k + 1) from ⟨F, F2, addK K cc.id, _, _, rfl, (V9.out.map_kept hge M9.out).weak (by have := HF2.out; omega) (fun x hx => addK_mem.2 hx), hme, addK_nodup KN.out _, HF.out, bl_grow B9.out hge (fun j hj => by cases hj; exact HF.out) B9.out.size⟩)
                              clear V9 M9 K9 B9 hme hge z1
                              go_wp2
                              go_meet
                              exact HS.out
                            · have V9 := Lib.hid hv; have M9 := Lib.hid (mp_pi M8.out ho); have B9 := Lib.hid (B8.out.trans ((pi_below ho V8.out.hB).mono SB.out))
                              clear hv ho CPu V8 M8 K8 B8 z1
                              go_wp2
                              go_meet
                              exact ⟨F, F2, K, _, _, rfl, V9.out.weak (by have := HF2.out; omega) (fun x hx => hx), M9.out.mono (Nat.le_succ _), KN.out, HF.out, B9.out⟩
                          · have hnb : (er == 0) = false := by simp [hne]
                            have HFE := Lib.hid hFe
                            clear hFe hne
                            go_wp2
                            go_meet
                            exact ⟨F, F2, K, _, _, rfl, V8.out.weak (by have := HFE.out; omega) (fun x hx => hx), M8.out.mono (Nat.le_succ _), KN.out, HF.out, B8.out⟩
                    have k1b : (cc.k == 1) = false := by simp [k1]
                    by_cases k2 : cc.k = 2
                    · have k2b : (cc.k == 2) = true := by simp [k2]
                      --@Vk2
                      have CF := Lib.hid (vw_flush V1.out (by have := FN.out; omega))
                      clear k1 k2
                      as_aux_lemma =>
                        go_wp2_with fail
                        refine CF.out.mono ?_
                        rintro e w8 ⟨rfl, hv, ho, -⟩
                        have V8 := Lib.hid ((hv.weak (D' := fun x => x ∈ ([] : List Int)) (Nat.zero_le (4102 * Fn)) (fun x hx => hx.elim)).alloc (.map #[] 0)); have B8a := Lib.hid (B1.out.trans ((pi_below ho SZ.out).mono SB.out))
                        have B8 := Lib.hid (B8a.out.alloc B8a.out.size (.map #[] 0))
                        have M8 := Lib.hid (((Mp.made w8 Try.prog 3).congr setV_nil).mono (Nat.zero_le (k + 1)))
                        clear hv ho CF V1 M1 K1 B1 y0 y1 y3
                        have hmm := @run_makeMap Try.prog
                        go_wp2
                        go_meet
                        exact ⟨_, Fn, [], _, _, rfl, V8.out, M8.out, .nil, B8a.out.size, B8.out⟩
                    · have k2b : (cc.k == 2) = false := by simp [k2]
                      --@Vk3
                      have CG := Lib.hid (vw_get V1.out cc.id)
                      clear k1 k2
                      as_aux_lemma =>
                        go_wp2_with fail
                        refine CG.out.mono ?_
                        rintro e w8 ⟨he, hv, ho⟩
                        obtain ⟨u1, u2, rfl⟩ : ∃ u1 u2, e = .returned (.tuple #[u1, u2]) := by
                          rcases he with ⟨-, -, rfl⟩ | ⟨-, rfl⟩ <;> exact ⟨_, _, rfl⟩
                        have V8 := Lib.hid hv; have M8 := Lib.hid (mp_pi M1.out ho); have B8 := Lib.hid (B1.out.trans ((pi_below ho SZ.out).mono SB.out))
                        clear hv ho he CG V1 M1 K1 B1 y0 y1 y3
                        go_wp2
                        go_meet
                        exact ⟨F, Fn, K, _, _, rfl, V8.out, M8.out.mono (Nat.le_succ _), KN.out, HF.out, B8.out⟩
                  case rest =>
                    --@Vrest
                    clear V1 M1 K1 B1 y0 y1 y3 KN HF FN SZ OK
                    obtain ⟨F, Fn, K, Now, St, rfl, hv, hm, hn, hF, hb⟩ := hcut
                    have V := Lib.hid hv; have MP := Lib.hid hm; have BW := Lib.hid hb; have KN := Lib.hid hn; have HF := Lib.hid hF
                    have CD := Lib.hid (vw_dirty V.out)
                    clear hv hm hn hF hb
                    as_aux_lemma =>
                      go_wp2_with fail
                      refine CD.out.mono ?_
                      rintro e w8 ⟨v8, l, rfl, ho, hlf, hl2, hso, hmem, hrng, hb⟩
                      obtain ⟨xa, xc, rfl⟩ := ow_slice ho
                      have V8 := Lib.hid (V.out.kept hb); have B8 := Lib.hid (below_then BW.out hb BW.out.size); have M8 := Lib.hid (MP.out.kept hb); have OW := Lib.hid ho; have SO := Lib.hid hso; have ME := Lib.hid hmem; have RNG := Lib.hid hrng
                      have PS := Lib.hid (show PdI w w8 Bs gd gl gp fr (.map (some F)) (k + 1) from ⟨F, Fn, K, Now, St, rfl, V8.out, M8.out, KN.out, HF.out, B8.out⟩)
                      obtain ⟨ln, hln⟩ : ∃ ln, ln = l.length := ⟨_, rfl⟩
                      have HL := Lib.hid hln
                      rw [← hln] at hlf hl2 ⊢
                      have LF := Lib.hid hlf
                      have ML := Lib.hid (setV_len M8.out KN.out)
                      clear ho hso hmem hrng hb hln CD V BW MP V8 B8
                      have nlf : ¬ (fr : Int) < (ln : Int) := by have := LF.out; omega
                      have dlf : decide (fr < ln) = false := decide_eq_false (by have := LF.out; omega)
                      have nlf2 : ¬ fr < ln := by have := LF.out; omega
                      have hkl : K.length = 0 → ln = 0 := fun h0 => by
                        rw [HL.out]
                        cases l with
                        | nil => rfl
                        | cons x t => have := ME.out x List.mem_cons_self; rw [List.length_eq_zero_iff.1 h0] at this; cases this
                      obtain ⟨kl, hkle⟩ : ∃ kl, kl = K.length := ⟨_, rfl⟩
                      rw [← hkle] at ML hkl
                      clear hkle
                      as_aux_lemma =>
                        go_upto_region 25 with fail
                        go_cut [108] (fun s108 wx => s108 = .bool false ∧ wx = w8)
                        case first =>
                          --@Vc1
                          by_cases h0 : kl = 0
                          · subst h0
                            obtain rfl : ln = 0 := hkl rfl
                            go_wp2_with (refine wpList_mp_len_if _ (by first | rfl | kernel_rfl) _ 64 rfl F rfl _ ML.out ?_)
                            go_meet
                            exact ⟨by first | rfl | (rw [decide_eq_false (by have := LF.out; omega)]), rfl⟩
                          · have h0b : ((kl : Int) == 0) = false := by simp; omega
                            go_wp2_with (refine wpList_mp_len_if _ (by first | rfl | kernel_rfl) _ 64 rfl F rfl _ ML.out ?_)
                            go_meet
                            exact ⟨by first | rfl | (rw [decide_eq_false (by have := LF.out; omega)]), rfl⟩
                        case rest =>
                          --@Vc2
                          obtain ⟨rfl, rfl⟩ := hcut
                          clear nlf nlf2 dlf hkl
                          have L256 := Lib.hid hl2
                          clear hlf hl2
                          as_aux_lemma =>
                            go_wp2_with fail
                            go_loopw [111] (fun i wx => ∃ j : Nat, j ≤ ln ∧ i = .int .i64 j ∧ wx = wc) (fun i _ => ln - (intOf i).toNat)
                            case atStart => exact ⟨0, Nat.zero_le _, rfl, rfl⟩
                            case round =>
                              obtain ⟨j, hj, rfl, rfl⟩ := hrel
                              by_cases hjl : j < ln
                              · have HJ := Lib.hid hjl
                                have hjb : j < 9223372036854775807 := by have := L256.out; omega
                                have hjc : j < l.length := by rw [← HL.out]; exact hjl
                                obtain ⟨g2, cap2, e2, hb2, hl3⟩ := ow_form OW.out (by omega)
                                rw [← HL.out] at e2
                                obtain ⟨rfl, rfl⟩ : xa = some ⟨g2, 0, none⟩ ∧ xc = cap2 := by simpa using e2
                                have cells := fun i (hi : i < l.length) => OW.out.cells (g := g2) rfl i (.int .i64 l[i]) (by rw [List.getElem?_map, List.getElem?_eq_getElem hi]; rfl)
                                have x0 := cells j hjc
                                rw [Addr.add_lit, Nat.zero_add] at x0
                                have hin := ME.out _ (List.getElem_mem hjc)
                                obtain ⟨x, hx⟩ : ∃ x, x = l[j] := ⟨_, rfl⟩
                                rw [← hx] at x0 hin
                                have SV := Lib.hid (setV_get K x)
                                rw [decide_eq_true hin] at SV
                                have hbd : -9223372036854775808 ≤ x ∧ x ≤ 9223372036854775807 := by have := RNG.out x (by rw [hx]; exact List.getElem_mem hjc); omega
                                have KI := Lib.hid (keyOf_int_mk (P := Try.prog) Try.underlying3 (WalkArith.wf_i64 (n := x) hbd))
                                have HX := Lib.hid hx
                                have CELLS := Lib.hid cells
                                clear hbd hin hl3 hb2 e2 hx cells
                                by_cases j0 : j = 0
                                · subst j0
                                  rw [show ((0 : Nat) : Int) = 0 from rfl]
                                  go_wp2_with (at_lookup; refine wpList_mp_look1 _ rfl _ _ 64 rfl 3 4 keyedInt Try.underlying64 (zeroBool _) F (k + 1) _ rfl M8.out _ _ rfl KI.out ?_; rw [SV.out])
                                  go_roundw
                                  case rel => exact ⟨1, by have := HJ.out; omega, by go_num, by first | rfl | trivial⟩
                                  case measure => have := HJ.out; simp [intOf]; omega
                                · have jp : (0 : Int) < (j : Int) := by omega
                                  have hj1 : j - 1 < l.length := by omega
                                  have x1 := CELLS.out (j - 1) hj1
                                  rw [Addr.add_lit, Nat.zero_add] at x1
                                  have hlt2 : l[j - 1] < l[j] := (List.pairwise_iff_getElem.1 SO.out) (j - 1) j hj1 hjc (by omega)
                                  obtain ⟨y, hy⟩ : ∃ y, y = l[j - 1] := ⟨_, rfl⟩
                                  rw [← hy] at x1 hlt2
                                  rw [← HX.out] at hlt2
                                  clear hy
                                  have nle : ¬ x ≤ y := by omega
                                  have cst : (j : Int) - 1 = ((j - 1 : Nat) : Int) := by omega
                                  go_wp2_with (at_lookup; refine wpList_mp_look1 _ rfl _ _ 64 rfl 3 4 keyedInt Try.underlying64 (zeroBool _) F (k + 1) _ rfl M8.out _ _ rfl KI.out ?_; rw [SV.out])
                                  go_roundw
                                  case rel => exact ⟨j + 1, by have := HJ.out; omega, by go_num, by first | rfl | trivial⟩
                                  case measure => have := HJ.out; simp [intOf]; omega
                              · obtain rfl : j = ln := by omega
                                clear hjl hj
                                go_wp2
                                go_roundw
                                case rel => exact ⟨k + 1, by have := HLT.out; omega, by go_num, PS.out⟩
                                case measure => have := HLT.out; simp [intOf]; omega
            · obtain rfl : k = len := by omega
              clear hlt hk
              go_wp2
              go_ret
              exact ⟨rfl, BW.out⟩
end Go.Proofs.Ytgafajbdmegfgaa
