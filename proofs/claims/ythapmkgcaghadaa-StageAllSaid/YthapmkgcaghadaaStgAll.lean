/- StageAll. -/
import Derived.Test.YthapmkgcaghadaaStgLib
import Derived.Laws.AppendOwnNone
set_option linter.unusedVariables false
set_option linter.unusedSimpArgs false
namespace Go.Proofs.Ythapmkgcaghadaa
open Go.RowKit Go.Maps

section
variable {ops : Array Oper} {rest : List Oper} {o : Oper} {a : Act} {w : World} {Q : Exit → Act → World → Prop}
theorem build_im0 (hg : o.guard = none) (x : Operand) (ho : o.op = .build 59 #[(0, x)]) (n : Int) (hx : a.eval x = .int .i64 n) (h : wpList Try.prog ops Q rest (a.put o.dst (.agg (Im.cs ⟨n, Pg.zero⟩))) w) : wpList Try.prog ops Q (o :: rest) a w := by
  refine wpList_plain hg fun K' hK' => ?_
  have hb : (Instr.build 59 #[(0, .int .i64 n)]).run Try.prog w = .ok (.agg (Im.cs ⟨n, Pg.zero⟩)) w := by kernel_rfl
  unfold Oper.wp execOp
  simp only [ho, Sem.run_bind, Sem.run_pure, Result.andThen_ok, List.map_toArray, List.map_cons, List.map_nil, hx, hb]
  exact hK' _ _ h
theorem append_nil_ims (hgd : o.guard = none) (s x : Operand) (ho : o.op = .call { callee := .builtin .append, args := #[s, x], argTypes := #[35, 35] }) (Bq : Nat) (v : Value) (l : List Im) (Bv : Nat)
    (hs : a.eval s = .slice none 0 0) (hx : a.eval x = v) (hv : IOwn w Bv v l) (hlen : l.length ≤ 1024) (hB : Bq ≤ w.heap.size)
    (h : ∀ v' w', IOwn w' Bq v' l → w.grownBy w' none → wpList Try.prog ops Q rest (a.put o.dst v') w') : wpList Try.prog ops Q (o :: rest) a w := by
  obtain ⟨i0, hi, hz0, hz1, hz2⟩ := info_parts Try.info59
  rcases hv.irow with ⟨rfl, rfl⟩ | ⟨k, c, rfl, h1, h2, h3, cur, h4⟩
  · exact wpList_append_own_none hgd s x 35 ho Bq 59 i0 17 Try.underlying35 hi _ 0 [] hs (World.ownsRow_nil _ _ _ _) hx (h _ _ (World.ownsRow_nil _ _ _ _) ⟨rfl, rfl, rfl, Nat.le_refl _, fun _ _ _ => rfl⟩)
  · refine wpList_append_own w hgd s x 35 ho Bq 59 i0 (.agg Im.zero.cs) 17 184 Try.underlying35 hi hz0 hz1 hz2 rfl (by decide) (.slice none 0 0) 0 [] hs (World.ownsRow_nil _ _ _ _) ⟨k, 0, none⟩ l.length c (flatIm l) hx (flatIm_len l) ?_ ?_ ?_ ?_ hB ?_
    · intro j u hu
      exact World.ownsRow.cells hv (g := k) rfl j u hu
    · intro u hu
      unfold flatIm at hu
      obtain ⟨i, _, hi⟩ := List.mem_flatMap.1 hu
      have : i.cs.toList.all (fun x => x.oneCell') = true := by simp [Im.cs, Pg.cs, Value.oneCell']
      exact List.all_eq_true.1 this u hi
    · unfold maxLen; omega
    · omega
    · intro v' w' hown hg _
      rw [Nat.zero_add, List.nil_append] at hown
      exact h v' w' hown hg
end
set_option maxRecDepth 100000 in
set_option maxHeartbeats 8000000 in
theorem walk_StageAll (n : Int) (v1 : Value) (u : List Im) (w : World) (hn1 : -9223372036854775808 ≤ n) (hn2 : n ≤ 9223372036854775807) (h1 : IsIms w v1 u) :
    Calls Try.prog 6 #[.int .i64 n, v1] w fun e w' => e = .returned (.bool true) ∧ Below w.heap.size w w' := by
  have U := Lib.hid h1
  obtain ⟨ua, uc, rfl, ux⟩ := h1.at_
  have CA := Lib.hid (awake_any w)
  clear h1 ux
  obtain ⟨j0, hji, hy0, hy1, hy2⟩ := info_parts Try.info59
  go_enter Try.func6, Try.ntmps6
  go_wp2_with fail
  refine CA.out.mono ?_
  rintro e w1 ⟨rfl, hb⟩
  have B1 := Lib.hid hb
  clear hb CA
  by_cases hn : 1 ≤ n ∧ n ≤ 1024
  rotate_left
  · have CM := Lib.hid (memory_no n w1 hn)
    clear hn
    go_wp2_with fail
    refine CM.out.mono ?_
    rintro e w2 ⟨rfl, rfl⟩
    go_wp2
    go_ret
    exact ⟨rfl, B1.out⟩
  obtain ⟨N, rfl⟩ : ∃ N : Nat, n = N := ⟨n.toNat, by omega⟩
  have NL := Lib.hid hn
  have CM := Lib.hid (memory_good N w1 (by omega) (by omega))
  clear hn
  go_wp2_with fail
  refine CM.out.mono ?_
  rintro e w2 ⟨gs, r, rfl, hS, hb⟩
  have RB := Lib.hid (show w.heap.size ≤ r from Nat.le_trans B1.out.size hS.br)
  have S2 := Lib.hid (show Sh w2 w.heap.size gs r (List.replicate N Pg.zero) from ⟨hS.box, hS.row, hS.one, hS.most, Nat.le_trans B1.out.size hS.bg, RB.out⟩)
  have B2 := Lib.hid (below_then B1.out hb B1.out.size)
  clear hS hb CM B1
  by_cases hN : (N : Int) ≤ 100
  rotate_left
  · go_wp2
    go_ret
    exact ⟨rfl, B2.out⟩
  have hN2 : ¬ (100 : Int) < N := by omega
  as_aux_lemma =>
    go_wp2_with fail
    refine (ss_new S2.out B2.out.size).mono ?_
    rintro e w3 ⟨g, b, rfl, hs, hb, -, -⟩
    have S4 := Lib.hid hs
    have B4 := Lib.hid (below_then B2.out hb B2.out.size)
    have RL := Lib.hid (show r < w3.heap.size from Bk.lt hs.sh.row)
    clear hs hb S2 B2
    obtain ⟨ps, hps⟩ : ∃ ps, ps = List.replicate N Pg.zero := ⟨_, rfl⟩
    rw [← hps] at S4
    have PZ := Lib.hid hps
    have PL := Lib.hid (show ps.length = N by rw [hps, List.length_replicate])
    clear hps hN hN2
    as_aux_lemma =>
      go_wp2_with fail
      go_loopw [33] (fun i wr => ∃ (j m : Nat) (l : List Im), j ≤ u.length ∧ m ≤ j ∧ i = .int .i64 j ∧ SS wr w.heap.size g b m gs r ps l ∧ (∀ i ∈ l, i.id < N) ∧ Below w.heap.size w wr) (fun i _ => u.length - (intOf i).toNat)
      case atStart => exact ⟨0, 0, [], Nat.zero_le _, Nat.le_refl _, rfl, S4.out, (fun i hi => by cases hi), B4.out⟩
      case round =>
        obtain ⟨j, m, l, hj, hmj, rfl, hS, hl, hb⟩ := hrel
        have S5 := Lib.hid hS; have B5 := Lib.hid hb; have LN := Lib.hid hl; have MJ := Lib.hid hmj
        clear hS hb hl hmj S4 B4
        by_cases hlt : j < u.length
        · have HLT := Lib.hid hlt
          have hjb : j < 9223372036854775807 := by have := U.out.len; simp only [maxLen] at this; omega
          have HJB := Lib.hid hjb
          obtain ⟨x, hx⟩ : ∃ x, u[j]? = some x := ⟨_, List.getElem?_eq_getElem hlt⟩
          obtain ⟨a', c', e1, hat⟩ := (U.out.at_.below B5.out)
          obtain ⟨b1, off, e2, hb1, hra⟩ := hat (by omega)
          obtain ⟨rfl, rfl⟩ : ua = some ⟨b1, off, none⟩ ∧ uc = c' := by rw [e2] at e1; simpa using e1
          have RA := Lib.hid (hra j x hx)
          have BN := Lib.hid (B5.out.alloc B5.out.size (.cells x.cs 59))
          have SN := Lib.hid (S5.out.alloc (.cells x.cs 59))
          have KN := Lib.hid (Bk.new wr 59 x.cs)
          obtain ⟨G, hG⟩ : ∃ G, G = wr.heap.size := ⟨_, rfl⟩
          rw [← hG] at KN
          clear e1 hat e2 hb1 hra hx
          as_aux_lemma =>
            go_upto_region 10 with (first | (refine load_im_off rfl _ rfl b1 off j x rfl RA.out ?_) | (refine store_im_new rfl _ _ rfl x rfl rfl ?_; rw [← hG]; clear hG; generalize wr.alloc (.cells x.cs 59) = w4 at *))
            have x0 : w4.cell? ⟨G, 0, none⟩ = some (.int .i64 x.id) := im_id KN.out
            by_cases hxn : x.id < (N : Int)
            · have CP := Lib.hid (ss_set SN.out x.id x.p (by have := MJ.out; have := HJB.out; simp only [maxLen]; omega))
              have XN := Lib.hid hxn
              go_wp2_with (refine load_im_page rfl _ rfl G x rfl KN.out ?_)
              refine CP.out.mono ?_
              rintro e w6 ⟨rfl, hS, hg⟩
              have S6 := Lib.hid hS
              have B6 := Lib.hid (bl_grow BN.out hg (fun j hj => by cases hj; exact SN.out.sg.bb) BN.out.size)
              have L6 := Lib.hid (show ∀ i ∈ setL l x.id x.p, i.id < N from fun i hi => by
                rcases setL_mem hi with ⟨rfl, _⟩ | h
                · exact XN.out
                · exact LN.out i h)
              clear hS hg CP hxn
              go_wp2
              go_roundw
              case rel => exact ⟨j + 1, m + 1, _, by have := HLT.out; omega, by have := MJ.out; omega, by go_num, S6.out, L6.out, B6.out⟩
              case measure => have := HLT.out; simp [intOf]; omega
            · go_wp2
              go_roundw
              case rel => exact ⟨j + 1, m, _, by have := HLT.out; omega, by have := MJ.out; omega, by go_num, SN.out, LN.out, BN.out⟩
              case measure => have := HLT.out; simp [intOf]; omega
        · have hjn : j = u.length := by omega
          subst hjn
          clear hlt hj MJ
          have IN := Lib.hid (show ∀ i ∈ l, (0 ≤ i.id ∧ i.id < ps.length) ∧ i.p.ok from fun i hi => by
            have h1 := S5.out.ids i hi
            have h2 := LN.out i hi
            rw [PL.out]
            exact ⟨⟨h1.1.1, h2⟩, h1.2⟩)
          have LL := Lib.hid (show (l.length : Int) ≤ 1024 - 0 from rising_len l 0 S5.out.up (fun i hi => (S5.out.ids i hi).1) (by omega))
          have CI := Lib.hid (ss_images S5.out)
          clear LN
          as_aux_lemma =>
            go_wp2_with fail
            refine CI.out.mono ?_
            have h0 : errL (getPg ps) l = 0 := errL_in fun i hi => (IN.out i hi).1
            rintro e w7 (⟨hne, -, -⟩ | ⟨-, v, rfl, hv, hb⟩)
            · exact absurd h0 hne
            have FO := Lib.hid (fit_out IN.out)
            have RO := Lib.hid (outL_rising (src := getPg ps) S5.out.up)
            have LO := Lib.hid (show (outL (getPg ps) l).length ≤ 1024 from Nat.le_trans (List.length_filter_le _ _) (by have := LL.out; omega))
            obtain ⟨B7, hB7⟩ : ∃ B7, B7 = wr.heap.size := ⟨_, rfl⟩
            rw [← hB7] at hv
            have IV := Lib.hid hv
            have S7 := Lib.hid (S5.out.kept hb)
            have BB := Lib.hid (below_then B5.out hb B5.out.size)
            have RB7 := Lib.hid (show w.heap.size ≤ B7 ∧ r < B7 ∧ B7 ≤ w7.heap.size from by rw [hB7]; exact ⟨B5.out.size, Bk.lt S5.out.sh.row, hb.size⟩)
            clear hv hb h0 CI S5 B5 hB7
            generalize hL : outL (getPg ps) l = L at *
            clear hL
            obtain ⟨va, vc, rfl⟩ := ow_slice IV.out
            as_aux_lemma =>
              go_wp2_with fail
              go_loopw [57] (fun i wx => ∃ k : Nat, k ≤ L.length ∧ i = .int .i64 k ∧ SS wx w.heap.size g b m gs r ps l ∧ IOwn wx B7 (.slice va L.length vc) L ∧ Below w.heap.size w wx ∧ B7 ≤ wx.heap.size) (fun i _ => L.length - (intOf i).toNat)
              case atStart => exact ⟨0, Nat.zero_le _, rfl, S7.out, IV.out, BB.out, RB7.out.2.2⟩
              case round =>
                obtain ⟨k, hk, rfl, hS, hV, hb, hz⟩ := hrel
                have S8 := Lib.hid hS; have V8 := Lib.hid hV; have B8 := Lib.hid hb; have Z8 := Lib.hid hz
                clear hS hV hb hz S7 IV BB
                by_cases hlt : k < L.length
                · have HLT := Lib.hid hlt
                  have hkb : k < 1024 := by have := LO.out; omega
                  obtain ⟨kb, cb, e1, _, hkb2⟩ := ow_form V8.out (by omega)
                  obtain ⟨rfl, rfl⟩ : va = some ⟨kb, 0, none⟩ ∧ vc = cb := by simpa using e1
                  have cell : ∀ (i : Nat) (x : Im), L[i]? = some x → wr.cell? ⟨kb, i * 17, none⟩ = some (.int .i64 x.id) := fun i x hx => by
                    have := World.ownsRow.cells V8.out (g := kb) rfl (i * 17 + 0) (.int .i64 x.id) (by rw [flatIm_get L i x hx 0 (by omega)]; rfl)
                    rw [Addr.add_lit, Nat.zero_add, Nat.add_zero] at this
                    exact this
                  obtain ⟨x, hx⟩ : ∃ x, L[k]? = some x := ⟨_, List.getElem?_eq_getElem hlt⟩
                  have x0 : wr.cell? ⟨kb, k * 17, none⟩ = some (.int .i64 x.id) := cell k x hx
                  have QD := fun n => (show Below wr.heap.size wr (wr.drewN n) from ⟨rfl, rfl, rfl, Nat.le_refl _, fun _ _ => rfl⟩)
                  have SD := Lib.hid (fun n => S8.out.kept (QD n)); have VD := Lib.hid (fun n => (show IOwn (wr.drewN n) B7 (.slice (some ⟨kb, 0, none⟩) L.length vc) L from ow_kept V8.out (QD n))); have BD := Lib.hid (fun n => below_then B8.out (QD n) B8.out.size)
                  have ZD := Lib.hid (fun n => (show B7 ≤ (wr.drewN n).heap.size from Z8.out))
                  clear QD
                  by_cases hpos : (0 : Int) < (k : Int)
                  rotate_left
                  · clear cell e1 S8 V8 B8 Z8
                    have HP := Lib.hid hpos
                    clear hpos
                    go_upto_region 19 with fail
                    have hp1 := HP.out
                    have hp2 : decide ((0 : Int) < (k : Int)) = false := decide_eq_false hp1
                    have hp3 : ¬ 0 < k := by omega
                    have hp4 : decide (0 < k) = false := decide_eq_false hp3
                    go_quiet (fail)
                    go_wp2
                    go_roundw
                    case rel => exact ⟨k + 1, by have := HLT.out; omega, by go_num, SD.out _, VD.out _, BD.out _, ZD.out _⟩
                    case measure => have := HLT.out; simp [intOf]; omega
                  · obtain ⟨q, hq⟩ : ∃ q, k = q + 1 := ⟨k - 1, by omega⟩
                    obtain ⟨y, hy⟩ : ∃ y, L[q]? = some y := ⟨_, List.getElem?_eq_getElem (by omega)⟩
                    have y0 : wr.cell? ⟨kb, q * 17, none⟩ = some (.int .i64 y.id) := cell q y hy
                    have hyx : y.id < x.id := by
                      have h1 := List.pairwise_iff_getElem.1 RO.out q k (by unfold ids; rw [List.length_map]; omega) (by unfold ids; rw [List.length_map]; omega) (by omega)
                      unfold ids at h1
                      rw [List.getElem_map, List.getElem_map, (List.getElem?_eq_some_iff.1 hy).2, (List.getElem?_eq_some_iff.1 hx).2] at h1
                      exact h1
                    have hng : ¬ x.id ≤ y.id := by omega
                    have hng2 : decide (x.id ≤ y.id) = false := decide_eq_false hng
                    have hqs : (k : Int) - 1 = (q : Int) := by omega
                    have hql : (q : Int) < (L.length : Int) := by omega
                    clear cell e1 S8 V8 B8 Z8 hyx hq
                    have HP := Lib.hid hpos; have HQ := Lib.hid hqs; have HN := Lib.hid hng
                    clear hpos hqs hng hng2
                    go_upto_region 19 with fail
                    have hp1 := HP.out
                    have hp2 : decide ((0 : Int) < (k : Int)) = true := decide_eq_true hp1
                    have hp3 : 0 < k := by omega
                    have hp4 : decide (0 < k) = true := decide_eq_true hp3
                    have hqs := HQ.out
                    have hng := HN.out
                    have hng2 : decide (x.id ≤ y.id) = false := decide_eq_false hng
                    go_quiet (fail)
                    go_wp2
                    go_roundw
                    case rel => exact ⟨k + 1, by have := HLT.out; omega, by go_num, SD.out _, VD.out _, BD.out _, ZD.out _⟩
                    case measure => have := HLT.out; simp [intOf]; omega
                · have hjn : k = L.length := by omega
                  subst hjn
                  clear hlt hk
                  have NO := Lib.hid (show ¬ fit ps.length (L ++ [⟨(N : Int), Pg.zero⟩]) from fun h => by
                    have := (h ⟨(N : Int), Pg.zero⟩ (by simp)).1.2
                    rw [PL.out] at this
                    exact absurd this (Int.lt_irrefl _))
                  obtain ⟨x, hx⟩ : ∃ x : Im, x = ⟨(N : Int), Pg.zero⟩ := ⟨_, rfl⟩
                  rw [← hx] at NO
                  have HX := Lib.hid hx
                  clear hx
                  obtain ⟨Hq, hHq⟩ : ∃ Hq, Hq = wr.heap.size := ⟨_, rfl⟩
                  have BL := Lib.hid (show ∀ k, (Value.slice va L.length vc).ownBlock = some k → k < Hq from fun k hk => by rw [hHq]; exact (ow_blk V8.out hk).2.1)
                  have HH := Lib.hid (show Hq = wr.heap.size ∧ B7 ≤ Hq from ⟨hHq, by rw [hHq]; exact Z8.out⟩)
                  clear hHq
                  have IA := Lib.hid (fun (w' : World) (hg : wr.grownBy w' none) => (show SS w' w.heap.size g b m gs r ps l from S8.out.grown hg (fun k hk => by cases hk)))
                  go_wp2_with (first
                    | (at_builtin; refine append_nil_ims rfl _ _ rfl Hq (.slice va L.length vc) L B7 rfl rfl V8.out LO.out (Nat.le_of_eq HH.out.1) ?_)
                    | fail)
                  intro va2 wa hva hga
                  obtain ⟨pa, pc, rfl⟩ := ow_slice hva
                  have SA := Lib.hid ((IA.out wa hga).alloc (.cells x.cs 59))
                  have VA := Lib.hid (show (wa.alloc (.cells x.cs 59)).ownsRow Hq 59 17 (.slice pa L.length pc) L.length (flatIm L) from World.ownsRow.alloc hva _)
                  have V9 := Lib.hid (show IOwn (wa.alloc (.cells x.cs 59)) B7 (.slice va L.length vc) L from (ow_same V8.out (fun k hk => hga.block k (ow_blk V8.out hk).2.1 (by simp))).alloc _)
                  have BA := Lib.hid ((bl_grow B8.out hga (fun j hj => by cases hj) B8.out.size).alloc (by have := hga.size; have := B8.out.size; omega) (.cells x.cs 59))
                  have ZA := Lib.hid (show Hq ≤ wa.heap.size by have := hga.size; have := HH.out.1; omega)
                  clear hva hga IA S8 V8 B8 Z8
                  as_aux_lemma =>
                    go_wp2_with (first
                      | (refine build_im0 rfl _ rfl (N : Int) rfl ?_; rw [← HX.out])
                      | (refine slice1_im rfl _ rfl x rfl ?_)
                      | (at_builtin; refine wpList_append_one _ rfl _ _ 35 rfl Hq 59 j0 (.agg Im.zero.cs) 17 184 Try.underlying35 hji hy0 hy1 hy2 rfl (.slice pa L.length pc) L.length (flatIm L) rfl VA.out ⟨wa.heap.size, 0, none⟩ 1 x.cs.toList rfl rfl ?qc2 ?qc3 ?qc4 (by omega) ?qc5 ?qc6 ?_))
                    case qc2 =>
                      intro q y hy
                      rw [Addr.add_lit, Nat.zero_add]
                      refine Eq.trans ((Bk.new wa 59 x.cs).cell q) ?_
                      simpa using hy
                    case qc3 => simp [Im.cs, Pg.cs, Value.oneCell']
                    case qc4 => have := LO.out; unfold maxLen; omega
                    case qc5 => have := LO.out; omega
                    case qc6 => have := ZA.out; simp; omega
                    intro vb wb hown hgrow
                    obtain ⟨za, zc, hze⟩ := ow_slice hown
                    subst hze
                    have VB := Lib.hid (show IOwn wb Hq (.slice za (L.length + 1) zc) (L ++ [x]) by
                      unfold IOwn
                      rw [List.length_append, flatIm_app]
                      exact hown)
                    have SB := Lib.hid (SA.out.grown hgrow (fun k hk => by
                      obtain ⟨h1, _, cur, hcur⟩ := ow_blk VA.out hk
                      exact SA.out.row_ne hcur (by decide) (by decide) (by have := RB7.out.2.1; have := HH.out.2; omega)))
                    have BB := Lib.hid (bl_grow BA.out hgrow (fun j hj => by have := RB7.out.1; have := HH.out.2; have := (ow_blk VA.out hj).1; omega) BA.out.size)
                    have VL := Lib.hid (show IOwn wb B7 (.slice va L.length vc) L from ow_same V9.out (fun k hk => hgrow.block k (ow_blk V9.out hk).2.1 (fun e => by have := (ow_blk VA.out e.symm).1; have := BL.out k hk; omega)))
                    have CP := Lib.hid (ss_apply SB.out VB.out)
                    rw [show appE ps (L ++ [x]) = 1 from if_neg NO.out, show appL ps (L ++ [x]) = ps from if_neg NO.out] at CP
                    clear hown hgrow VA V9 SA BA
                    as_aux_lemma =>
                      go_wp2_with fail
                      refine CP.out.mono ?_
                      rintro e w9 ⟨rfl, hS, hg⟩
                      have S9 := Lib.hid hS
                      have B9 := Lib.hid (bl_grow BB.out hg (fun j hj => by cases hj; exact RB.out) BB.out.size)
                      have V9 := Lib.hid (show IOwn w9 B7 (.slice va L.length vc) L from ow_grown VL.out hg (fun k hk => by cases hk; exact RB7.out.2.1))
                      clear hS hg CP SB BB VL VB
                      as_aux_lemma =>
                        go_wp2_with fail
                        go_loopw [87] (fun i wx => ∃ k : Nat, k ≤ N ∧ i = .int .i64 k ∧ SS wx w.heap.size g b m gs r ps l ∧ IOwn wx B7 (.slice va L.length vc) L ∧ Below w.heap.size w wx) (fun i _ => N - (intOf i).toNat)
                        case atStart => exact ⟨0, Nat.zero_le _, rfl, S9.out, V9.out, B9.out⟩
                        case round =>
                          obtain ⟨k, hk, rfl, hS, hV, hb⟩ := hrel
                          have S10 := Lib.hid hS; have V10 := Lib.hid hV; have B10 := Lib.hid hb
                          clear hS hV hb S9 V9 B9
                          by_cases hlt : k < N
                          · have HLT := Lib.hid hlt
                            have hkb : k < 1024 := by have := NL.out; omega
                            have CG := Lib.hid (shget_any S10.out.sh k)
                            rw [getPg_in (by rw [PL.out]; exact hlt), show ps.getD k Pg.zero = Pg.zero by rw [PZ.out, List.getD_eq_getElem?_getD, List.getElem?_replicate, if_pos hlt]; rfl] at CG
                            have NE := fun w => page_neq Pg.zero Pg.zero w
                            rw [pgB_self] at NE
                            go_wp2_with fail
                            refine CG.out.mono ?_
                            rintro e w11 ⟨rfl, hb⟩
                            have hbb := hb.alloc hb.size (.cells Pg.zero.cs 42)
                            have S12 := Lib.hid (S10.out.kept hbb)
                            have V12 := Lib.hid (show IOwn _ B7 (.slice va L.length vc) L from ow_kept V10.out hbb)
                            have B12 := Lib.hid (below_then B10.out hbb B10.out.size)
                            have K12 := Lib.hid (Bk.new w11 42 Pg.zero.cs)
                            obtain ⟨G, hG⟩ : ∃ G, G = w11.heap.size := ⟨_, rfl⟩
                            rw [← hG] at K12
                            clear hb hbb CG S10 V10 B10
                            dsimp only
                            as_aux_lemma =>
                              go_upto_region 28 with (refine store_page_new rfl _ _ rfl Pg.zero rfl rfl ?_; rw [← hG]; clear hG; generalize w11.alloc (.cells Pg.zero.cs 42) = w12 at *)
                              go_wp2_with (first | (refine load_page rfl _ rfl G Pg.zero rfl K12.out ?_) | (refine build_zero_if rfl (by first | rfl | kernel_rfl) ?_))
                              go_roundw
                              case rel => exact ⟨k + 1, by have := HLT.out; omega, by go_num, S12.out, V12.out, B12.out⟩
                              case measure => have := HLT.out; simp [intOf]; omega
                          · have hjn : k = N := by omega
                            subst hjn
                            clear hlt hk
                            have CP := Lib.hid (ss_apply S10.out V10.out)
                            rw [show appE ps L = 0 from if_pos FO.out] at CP
                            as_aux_lemma =>
                              go_wp2_with fail
                              refine CP.out.mono ?_
                              rintro e w9 ⟨rfl, hS, hg⟩
                              have BZ := Lib.hid (bl_grow B10.out hg (fun j hj => by cases hj; exact RB.out) B10.out.size)
                              clear hS hg CP
                              go_wp2
                              go_ret
                              exact ⟨rfl, BZ.out⟩
end Go.Proofs.Ythapmkgcaghadaa
