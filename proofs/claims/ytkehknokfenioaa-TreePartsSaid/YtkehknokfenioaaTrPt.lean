/- Layer 16: TreeParts. -/
import Derived.Test.YtkehknokfenioaaTrPtP
import Derived.Laws.IdiomStrings
import Derived.Laws.BytesString
set_option linter.unusedVariables false
set_option linter.unusedSimpArgs false
namespace Go.Proofs.Ytkehknokfenioaa
open Go.RowKit Go.Maps

theorem kvL_len : ∀ l : List Kv, (kvL l).length = l.length * 3
  | [] => rfl
  | x :: l => by
    show (encK x ++ kvL l).length = _
    rw [List.length_append, kvL_len l, List.length_cons, show (encK x).length = 3 from rfl]; omega
theorem kvL_one : ∀ l : List Kv, ∀ u ∈ kvL l, u.oneCell' = true
  | [], u, h => by cases h
  | x :: l, u, h => by
    rcases List.mem_append.1 (show u ∈ encK x ++ kvL l from h) with h | h
    · simp only [encK, List.mem_cons, List.mem_nil_iff, or_false] at h
      rcases h with rfl | rfl | rfl <;> rfl
    · exact kvL_one l u h
theorem kvL_join (l m : List Kv) : kvL (l ++ m) = kvL l ++ kvL m := by unfold kvL; rw [List.flatMap_append]
theorem kown_at {w : World} {base : Nat} {v : Value} {l : List Kv} (h : KOwn w base v l) (hl : 0 < l.length) : ∃ g cap, v = .slice (some ⟨g, 0, none⟩) l.length cap ∧ base ≤ g ∧ g < w.heap.size ∧ l.length ≤ cap ∧ cap ≤ maxLen ∧ (∀ j u, (kvL l)[j]? = some u → w.cell? ((⟨g, 0, none⟩ : Addr).add j) = some u) ∧ ∀ i x, l[i]? = some x → w.rangeAt g (i * 3) (encK x) := by
  have h0 := h
  rcases h with ⟨h1, ⟨-, h2⟩ | ⟨g, cap, cur, hv, h3, h4, h5, h6, -⟩⟩
  · omega
  · subst hv
    have hc : ∀ j u, (kvL l)[j]? = some u → w.cell? ((⟨g, 0, none⟩ : Addr).add j) = some u := fun j u hu => World.ownsRow.cells h0 (g := g) rfl j u hu
    refine ⟨g, cap, rfl, h3, Bk.lt h4, h5, h6, hc, fun i x hi j u hu => ?_⟩
    have hj : j < 3 := (List.getElem?_eq_some_iff.1 hu).1
    have := hc (i * 3 + j) u (by rw [kvL_get l i x hi j hj]; exact hu)
    rw [Addr.add_lit, Nat.zero_add] at this
    exact this
theorem kat_pre {w : World} {PC t pc wl : Nat} {pa : Option Addr} {L : List Kv} (h : KOwn w PC (.slice pa t pc) (L.take t)) (hL : (L.take t).length = t) (hw : wl = (L.take 64).length) (hle : wl ≤ t) : KAt w (.slice pa wl pc) (L.take 64) := by
  refine ⟨pa, pc, by rw [hw], ?_⟩
  rcases Nat.eq_zero_or_pos wl with h0 | h0
  · exact .inl (List.eq_nil_of_length_eq_zero (by omega))
  · obtain ⟨g, cap, hv, -, h2, -, -, -, hr⟩ := kown_at h (by omega)
    obtain ⟨rfl, -⟩ : pa = some ⟨g, 0, none⟩ ∧ pc = cap := by
      injection hv with h1 h2 h3
      exact ⟨h1, h3⟩
    refine .inr ⟨g, rfl, h2, fun i x hi => hr i x ?_⟩
    have h4 := (List.getElem?_eq_some_iff.1 hi).1
    rw [List.getElem?_take] at hi ⊢
    rw [if_pos (by omega)]
    split at hi
    · exact hi
    · cases hi
def lenOfV : Value → Nat
  | .slice _ n _ => n
  | _ => 0
theorem infoB : (Try.prog.info? 5).map (fun i => (i.zero, i.size, i.bytes)) = some (some (.int .u8 0), 1, 1) := by kernel_rfl
section
variable {ops : Array Oper} {Q : Exit → Act → World → Prop} {K : Act → World → Prop} {i : Nat} {o : Oper} {a : Act} {w : World}
theorem held_byte1 (hi : ops[i]? = some o) (hw : Region.wanted o (yielded ops a.tmps) = true) (d : Nat) (hd : o.dst = some d) (ho : o.op = .buildSlice 58 1 #[(0, .const (.int .u8 0))])
    (h : K (a.put (some d) (.slice (some ⟨w.heap.size, 0, none⟩) 1 1)) (w.alloc (.cells #[.int .u8 0] 5))) : wpOp Try.prog ops Q i K a w := by
  obtain ⟨i0, hi0, hz0, hz1, hz2⟩ := info_parts infoB
  refine held_wp hi hw (wp_buildSlice 58 5 1 #[(0, .const (.int .u8 0))] ho #[.int .u8 0] i0 _ Try.underlying58 hi0 hz0 (by rw [hz1]; decide) (by rw [hz1]; decide) ?_ (by rw [hd]; exact h))
  rw [hz1]
  have hc : a.eval (.const (.int .u8 0)) = .int .u8 0 := rfl
  simp only [List.map_toArray, List.map_cons, List.map_nil, hc]
  show Instr.fill _ _ _ = some #[Value.int IntKind.u8 0]
  kernel_rfl
theorem held_str (hi : ops[i]? = some o) (hw : Region.wanted o (yielded ops a.tmps) = true) (d : Nat) (hd : o.dst = some d) (x : Operand) (ho : o.op = .convert 58 9 x) (g : Nat) (hx : a.eval x = .slice (some ⟨g, 0, none⟩) 1 1) (hb : Bk w g 5 #[.int .u8 0])
    (h : K (a.put (some d) (.string ⟨#[0]⟩)) w) : wpOp Try.prog ops Q i K a w := by
  have hr := run_convert_bytes_back (P := Try.prog) w 58 9 5 ⟨g, 0, none⟩ 1 [0] Try.underlying58 Try.underlying5 Try.underlying9 (fun j hj => by
    obtain rfl : j = 0 := by simpa using hj
    rw [Addr.add_lit]
    exact hb.cell 0)
  refine held_run hi hw d hd _ w ?_ h
  unfold execOp
  simp only [ho, hx]
  have hl : ([0] : List UInt8).length = 1 := rfl
  rw [hl] at hr
  simp only [Sem.run_bind, Sem.run_pure, Result.andThen_ok, hr]
end
set_option maxRecDepth 100000 in
set_option maxHeartbeats 24000000 in
theorem walk_TreeParts (v : Value) (cl : List Kl) (most : Int) (w : World) (h : KlsIn w v cl) (hn1 : -9223372036854775808 ≤ most) (hn2 : most ≤ 9223372036854775807) :
    Calls Try.prog 6 #[v, .int .i64 most] w fun e w' => e = .returned (.bool true) ∧ Below w.heap.size w w' := by
  have CIN := Lib.hid h
  have LM := Lib.hid h.len
  have CA := Lib.hid (awake16 w)
  obtain ⟨a, c, rfl, -⟩ := h.at_
  obtain ⟨len, hlen⟩ : ∃ len, len = cl.length := ⟨_, rfl⟩
  have HLN := Lib.hid hlen
  rw [← hlen] at CIN LM ⊢
  clear h hlen
  go_enter Try.func6, Try.ntmps6
  go_wp2_with fail
  refine CA.out.mono ?_
  rintro e w1 ⟨rfl, hb⟩
  have B1 := Lib.hid hb
  have CI1 := Lib.hid (CIN.out.kept hb)
  clear hb CA CIN
  by_cases c150 : (150 : Int) < (len : Int)
  · --@aux
      go_wp2
      go_ret
      exact ⟨rfl, B1.out⟩
  have LL := Lib.hid (show len ≤ 150 by omega)
  have c150n : ¬ 150 < len := by omega
  by_cases m1 : most < 1
  · --@aux
      go_wp2
      go_ret
      exact ⟨rfl, B1.out⟩
  by_cases m64 : 64 < most
  · --@aux
      go_wp2
      go_ret
      exact ⟨rfl, B1.out⟩
  have MB := Lib.hid (show 1 ≤ most ∧ most ≤ 64 by omega)
  have CV := Lib.hid (volume_any 150 (by decide) (by decide) w1)
  rw [show ((150 : Nat) : Int) = 150 from rfl] at CV
  as_aux_lemma =>
      go_wp2_with fail
      refine CV.out.mono ?_
      clear c150 c150n m1 m64
      rintro e w2 ⟨g, b, gs, r, pg, rfl, hs, ht, hb⟩
      have BB := Lib.hid (show w1.heap.size ≤ b ∧ w1.heap.size ≤ r from ⟨hs.b_ge, hs.r_ge⟩)
      have B2 := Lib.hid hb
      have V2 := Lib.hid hs
      have T2 := Lib.hid ht
      clear hs ht hb CV
      as_aux_lemma =>
          go_wp2_with fail
          go_loopw [40] (fun i wr => ∃ (k M H : Nat) (pg : Nat → Pg) (ids : List Nat) (R : List (ByteArray × Ce)), k ≤ len ∧ i = .int .i64 k ∧ M ≤ 5 + 40 * k ∧ SV wr w1.heap.size g b gs r 150 M pg pg ∧ Tl pg 150 H ids R False ∧ (∀ x, x ∈ R → x.1.size ≤ 7) ∧ Below w1.heap.size w1 wr) (fun i _ => len - (intOf i).toNat)
          case atStart => exact ⟨0, _, _, pg, _, [], Nat.zero_le _, rfl, Nat.le_refl _, V2.out, T2.out.weak (fun h => h.elim), (fun x hx => (by cases hx)), B2.out⟩
          case round =>
            clear V2 B2 T2
            obtain ⟨k, M, H, pg, ids, R, hk, rfl, hM, hs, ht, hz, hb⟩ := hrel
            have V := Lib.hid hs; have HT := Lib.hid ht; have BW := Lib.hid hb; have HM := Lib.hid hM; have HZ := Lib.hid hz
            by_cases hlt : k < len
            · have HLT := Lib.hid hlt
              have hkb : k < 9223372036854775807 := by have := LL.out; omega
              have hkc : k < cl.length := by rw [← HLN.out]; exact hlt
              obtain ⟨cc, hcc⟩ : ∃ cc, cc = cl[k] := ⟨_, rfl⟩
              have KI := CI1.out.kept hb
              have OK := Lib.hid (KI.bd _ (List.getElem_mem hkc))
              obtain ⟨a', c', e1, hat⟩ := KI.at_
              obtain ⟨b1, off, e2, hb1, hra⟩ := hat (by omega)
              rw [← HLN.out] at e1
              obtain ⟨rfl, rfl⟩ : a = some ⟨b1, off, none⟩ ∧ c = c' := by rw [e2] at e1; simpa using e1
              have RK := Lib.hid (hra k cl[k] (List.getElem?_eq_getElem hkc))
              rw [← hcc] at OK RK
              have V1 := Lib.hid (hs.alloc (.cells cc.cs 30))
              have B1' := Lib.hid (hb.alloc hb.size (.cells cc.cs 30))
              have K1 := Lib.hid (Bk.new wr 30 cc.cs)
              have O1 := Lib.hid (OK.out.kept ((Below.refl wr.heap.size wr).alloc (Nat.le_refl _) (.cells cc.cs 30)))
              clear e1 hat e2 hb1 hra hcc hkc KI hs ht hb hM hz V BW
              as_aux_lemma =>
                  go_upto_region 11 with (first | (refine load_kl_off rfl _ rfl b1 off k cc rfl RK.out ?_) | (refine store_kl_new rfl _ _ rfl cc OK.out.sl rfl rfl ?_))
                  generalize wr.alloc (.cells cc.cs 30) = w9 at *
                  clear OK RK
                  obtain ⟨G, hG⟩ : ∃ G, G = wr.heap.size := ⟨_, rfl⟩
                  rw [← hG] at K1 ⊢
                  clear hG
                  have x1 : w9.cell? ⟨G, 1, none⟩ = some (.string cc.key) := K1.out.cell 1
                  have x4 : w9.cell? ⟨G, 4, none⟩ = some cc.kv := K1.out.cell 4
                  have hks : cc.key.size ≤ 9223372036854775807 := O1.out.key
                  by_cases h8 : 8 ≤ cc.key.size
                  · have h8i : (8 : Int) ≤ (cc.key.size : Int) := by omega
                    clear O1 x4 K1
                    as_aux_lemma =>
                        go_wp2
                        go_roundw
                        case rel => exact ⟨k + 1, M, H, pg, ids, R, by have := HLT.out; omega, by go_num, by have := HM.out; omega, V1.out, HT.out, HZ.out, B1'.out⟩
                        case measure => have := HLT.out; simp [intOf]; omega
                  · have h8i : ¬ (8 : Int) ≤ (cc.key.size : Int) := by omega
                    have K7 := Lib.hid (show cc.key.size ≤ 7 by omega)
                    have CD := Lib.hid (tdo_any V1.out (Nat.le_refl _) HT.out (by have := HM.out; have := HLT.out; have := LL.out; unfold maxLen; omega) cc O1.out.key O1.out.val _ _ O1.out.row)
                    generalize cc.kv = ckv at *
                    clear V1 O1
                    as_aux_lemma =>
                        go_wp2_with (refine load_kl rfl _ rfl G cc rfl K1.out ?_)
                        refine CD.out.mono ?_
                        rintro e w11 ⟨u, er, rfl, hm⟩
                        obtain ⟨pg', hs, hg, -, H2, ids2, R2, ht2, hst⟩ := hm.after HT.out
                        have V3 := Lib.hid (hs.alloc (.cells u.cs 34)); have T2 := Lib.hid (ht2.weak (fun h => h.elim : False → _))
                        have HZ2 := Lib.hid (step_small hst K7.out HZ.out)
                        have B3' := Lib.hid ((bl_grow B1'.out hg (fun k hk => by cases hk; exact BB.out.1) B1'.out.size).alloc (Nat.le_trans B1'.out.size hg.size) (.cells u.cs 34))
                        clear hm hs hg ht2 hst B1' CD K1 x4 x1 HT hks h8 h8i
                        as_aux_lemma =>
                            go_wp2_with (refine store_ud_new rfl _ _ rfl u rfl rfl ?_; generalize w11.alloc (.cells u.cs 34) = w12 at *)
                            refine (tland_any V3.out B3'.out er).mono ?_
                            rintro e w13 ⟨rfl, hs, hb, -⟩
                            have V4 := Lib.hid hs; have B4 := Lib.hid hb
                            generalize landed er pg pg' = pgl at *
                            clear hs hb V3 B3'
                            go_wp2
                            go_roundw
                            case rel => exact ⟨k + 1, M + 40, H2, pgl, ids2, R2, by have := HLT.out; omega, by go_num, by have := HM.out; omega, V4.out, T2.out, HZ2.out, B4.out⟩
                            case measure => have := HLT.out; simp [intOf]; omega
            · obtain rfl : k = len := by omega
              have CR := Lib.hid (tl_all hs (Nat.le_refl _) ht)
              obtain ⟨L, hL⟩ : ∃ L, L = kvOf R := ⟨_, rfl⟩
              have HL := Lib.hid hL
              have EW : rangeL R ⟨#[]⟩ 64 = L.take 64 := by unfold rangeL; rw [fromR_nil, hL]
              rw [EW] at CR
              have GE := Lib.hid hs.gs_ne
              clear hlt hk hs ht hb hM hz hL EW
              as_aux_lemma =>
                  go_wp2_with fail
                  refine CR.out.mono ?_
                  rintro e w2 ⟨bv, rfl, ho, hb⟩
                  obtain ⟨xa, xc, rfl⟩ := ow_slice ho
                  have V2 := Lib.hid (V.out.kept hb); have B2 := Lib.hid (below_then BW.out hb BW.out.size); have OW := Lib.hid ho
                  have WB := Lib.hid (show ∀ k, (Value.slice xa (L.take 64).length xc).ownBlock = some k → k < w2.heap.size from fun k hk => (ow_blk ho hk).2.1)
                  obtain ⟨wl, hwl⟩ : ∃ wl, wl = (L.take 64).length := ⟨_, rfl⟩
                  have HWL := Lib.hid (show wl = (L.take 64).length ∧ wl ≤ 64 ∧ wl ≤ L.length from by rw [hwl, List.length_take]; omega)
                  obtain ⟨PB, hPB⟩ : ∃ PB, PB = wr.heap.size := ⟨_, rfl⟩
                  obtain ⟨PC, hPC⟩ : ∃ PC, PC = w2.heap.size := ⟨_, rfl⟩
                  have SZP := Lib.hid (show w1.heap.size ≤ PC ∧ PC ≤ w2.heap.size ∧ PB ≤ PC by rw [hPB, hPC]; exact ⟨Nat.le_trans BW.out.size hb.size, Nat.le_refl _, hb.size⟩)
                  rw [← hPB] at OW GE
                  rw [← hPC] at WB
                  have OW2 := Lib.hid (show w2.ownsRow PB 57 3 (.slice xa (L.take 64).length xc) (L.take 64).length (kvL (L.take 64)) from OW.out)
                  rw [← hwl] at WB OW2 ⊢
                  clear ho hb CR V BW hPB hPC hwl OW
                  as_aux_lemma =>
                      go_wp2_with fail
                      go_loopw [14, 15] (fun ps fv wr => ∃ (t : Nat) (from_ : ByteArray), fv = .string from_ ∧ t ≤ L.length ∧ t ≤ 200 ∧ KOwn wr PC ps (L.take t) ∧ from_.size ≤ 8 ∧ kvOf (fromR R from_) = L.drop t ∧ SV wr w1.heap.size g b gs r 150 M pg pg ∧ wr.ownsRow PB 57 3 (.slice xa wl xc) wl (kvL (L.take 64)) ∧ Below w1.heap.size w1 wr ∧ PC ≤ wr.heap.size) (fun ps _ _ => wl - lenOfV ps)
                      case atStart => exact ⟨0, ⟨#[]⟩, rfl, Nat.zero_le _, Nat.zero_le _, World.ownsRow_nil _ _ _ _, by decide, by rw [fromR_nil, HL.out]; rfl, V2.out, OW2.out, B2.out, SZP.out.2.1⟩
                      case round =>
                        clear V2 B2 OW2
                        obtain ⟨t, from_, rfl, htL, ht2, hp, hf8, hfr, hs, hw, hb, hpc⟩ := hrel
                        have LT : (L.take t).length = t := by rw [List.length_take]; omega
                        have hp' := hp
                        unfold KOwn at hp'
                        rw [LT] at hp'
                        obtain ⟨pa, pc, rfl⟩ := ow_slice hp'
                        have V := Lib.hid hs; have BW := Lib.hid hb; have PO := Lib.hid hp'; have WO := Lib.hid hw; have PS := Lib.hid hpc; have F8 := Lib.hid hf8; have FR := Lib.hid hfr; have TL := Lib.hid htL; have T2 := Lib.hid ht2
                        have ht63 : t ≤ 9223372036854775807 := by omega
                        clear hp hp' hf8 hfr hs hw hb hpc htL LT
                        by_cases hlt : t < wl
                        · have HLT := Lib.hid hlt
                          have hlti : (t : Int) < (wl : Int) := by omega
                          have CR := Lib.hid (tl_range V.out (Nat.le_refl _) HT.out from_ most)
                          clear ht2
                          as_aux_lemma =>
                              go_wp2_with fail
                              refine CR.out.mono ?_
                              rintro e w3 ⟨⟨hx, -⟩ | ⟨-, lv, rfl, ho⟩, hb⟩
                              · have := F8.out; have := MB.out; omega
                              have EL : rangeL R from_ most.toNat = (L.drop t).take most.toNat := by unfold rangeL; rw [FR.out]
                              rw [EL] at ho
                              obtain ⟨l, hl⟩ : ∃ l, l = (L.drop t).take most.toNat := ⟨_, rfl⟩
                              rw [← hl] at ho
                              have hll : l.length = min most.toNat (L.length - t) := by rw [hl, List.length_take, List.length_drop]
                              have hwl := HWL.out; have hmb := MB.out
                              obtain ⟨q, hq⟩ : ∃ q, l.length = q + 1 := ⟨l.length - 1, by omega⟩
                              have EJ := Lib.hid (show L.take (t + (q + 1)) = L.take t ++ l from by
                                rw [List.take_add, hl]
                                congr 1
                                rw [← hq, hll, List.take_eq_take_iff, List.length_drop]; omega)
                              have QB := Lib.hid (show t + (q + 1) ≤ L.length ∧ q + 1 ≤ 64 from by omega)
                              obtain ⟨p, hp⟩ : ∃ p, l[q]? = some p := ⟨_, List.getElem?_eq_getElem (by omega)⟩
                              have hpL : (kvOf R)[t + q]? = some p := by
                                rw [← HL.out]
                                have h1 := hp
                                rw [hl, List.getElem?_take, if_pos (by omega), List.getElem?_drop] at h1
                                exact h1
                              have NX := Lib.hid (show kvOf (fromR R (kNul p.1)) = L.drop (t + (q + 1)) from by rw [next_part HT.out hpL, HL.out]; rfl)
                              have N8 := Lib.hid (show (kNul p.1).size ≤ 8 from by
                                rw [kNul_size]
                                have := kv_key HT.out HZ.out (List.mem_of_getElem? hpL)
                                omega)
                              obtain ⟨g2, cap2, rfl, hg2, hg2s, hc2, -, hcel, hrow⟩ := kown_at ho (by omega)
                              rw [hq] at hc2 ⊢
                              have hr2 := hrow q p hp
                              have V3 := Lib.hid (V.out.kept hb); have B3 := Lib.hid (below_then BW.out hb BW.out.size)
                              have P3 := Lib.hid (ow_kept PO.out hb); have W3 := Lib.hid (ow_kept WO.out hb)
                              have PS3 := Lib.hid (Nat.le_trans PS.out hb.size)
                              have PK := Lib.hid (show ∀ k, (Value.slice pa t pc).ownBlock = some k → PC ≤ k ∧ k < g2 from fun k hk => ⟨(ow_blk PO.out hk).1, Nat.lt_of_lt_of_le (ow_blk PO.out hk).2.1 hg2⟩)
                              have CEL := Lib.hid hcel; have R2 := Lib.hid hr2; have G2 := Lib.hid hg2s
                              have NL := Lib.hid (show (kvL l).length = (q + 1) * 3 from by rw [kvL_len, hq])
                              have EK := Lib.hid (show kvL (L.take t) ++ kvL l = kvL (L.take (t + (q + 1))) from by rw [EJ.out, kvL_join])
                              obtain ⟨i0, hi, hz0, hz1, hz2⟩ := info_parts Try.infoK57
                              clear hb ho CR V BW PO WO PS EL hl hll hwl hmb hq hp hpL hcel hrow hr2 hg2 hg2s EJ FR
                              as_aux_lemma =>
                                  go_upto_region 26 with (at_builtin; refine wpList_append_lies w3 rfl _ _ 39 rfl PC 57 i0 _ 3 40 Try.underlying39 hi hz0 hz1 hz2 rfl (by decide) (.slice pa t pc) t (kvL (L.take t)) rfl P3.out ⟨g2, 0, none⟩ (q + 1) cap2 (kvL l) rfl NL.out CEL.out (kvL_one l) (by omega) ?qc4 ?qc5 PS3.out _ rfl ?_)
                                  case qc4 => have := T2.out; have := QB.out; unfold maxLen; omega
                                  case qc5 => have := T2.out; have := QB.out; omega
                                  intro g3 cap3 w4 hown hgrow _ _
                                  have GN := GE.out; have SZ := SZP.out
                                  have V4 := Lib.hid (V3.out.grown hgrow (fun k hk => by have := (PK.out k hk).1; omega))
                                  have W4 := Lib.hid (ow_same W3.out (fun k hk => hgrow.block k (ow_blk W3.out hk).2.1 (fun e => by have h1 := (PK.out k e.symm).1; have h2 := WB.out k hk; omega)))
                                  have B4 := Lib.hid (bl_grow B3.out hgrow (fun k hk => by have := (PK.out k hk).1; omega) B3.out.size)
                                  have S4 := Lib.hid (Nat.le_trans PS3.out hgrow.size)
                                  have R4 := Lib.hid (show w4.rangeAt g2 (q * 3) (encK p) from fun j u hu => by
                                    have h1 := R2.out j u hu
                                    unfold World.cell? at h1 ⊢
                                    rw [hgrow.block g2 G2.out (fun e => by have := (PK.out g2 e.symm).2; omega)]
                                    exact h1)
                                  rw [EK.out] at hown
                                  have P4 := Lib.hid hown
                                  clear hown hgrow V3 W3 B3 P3 PS3 R2 CEL NL EK GN SZ
                                  as_aux_lemma =>
                                      go_upto_region 26 with fail
                                      have hq64 : q < 64 := by have := QB.out; omega
                                      have hp7 : p.1.size ≤ 7 := by have := N8.out; rw [kNul_size] at this; omega
                                      refine wp_region_held (S := fun w' => w'.rangeAt g2 (q * 3) (encK p)) (by kernel_rfl) ?_
                                      refine held_take (fuel := 10) (i := 0) 91 rfl rfl (by kernel_rfl) (by kernel_rfl) (by kernel_rfl) (fun _ _ _ h => h) (held_move _ rfl (by kernel_rfl)) R4.out ?_
                                      refine held_take (fuel := 9) (i := 1) 92 rfl rfl (by kernel_rfl) (by kernel_rfl) (by kernel_rfl) (fun _ _ _ h => h) (held_move _ rfl (by kernel_rfl)) R4.out ?_
                                      simp only [Act.put, Act.eval, List.setIfInBounds_toArray, List.set_cons_succ, List.set_cons_zero]
                                      refine held_take (fuel := 8) (i := 2) (v := .int .i64 ((q + 1 : Nat) : Int)) 93 rfl rfl (by kernel_rfl) (by kernel_rfl) (by kernel_rfl) (fun _ _ _ h => h) (by refine .inl ⟨by kernel_rfl, fun wx hx => ?_⟩; unfold execOp; go_simp) R4.out ?_
                                      simp only [Act.put, Act.eval, List.setIfInBounds_toArray, List.set_cons_succ, List.set_cons_zero]
                                      refine held_take (fuel := 7) (i := 3) (v := .int .i64 (q : Int)) 94 rfl rfl (by kernel_rfl) (by kernel_rfl) (by kernel_rfl) (fun _ _ _ h => h) (by
                                        refine .inl ⟨by kernel_rfl, fun wx hx => ?_⟩
                                        have e1 : IntKind.i64.wrap (((q + 1 : Nat) : Int) - 1) = (q : Int) := by rw [IntWalk.i64_in _ (by omega)]; omega
                                        have e2 : IntKind.i64.wrap ((q : Int) + 1 - 1) = (q : Int) := by rw [IntWalk.i64_in _ (by omega)]; omega
                                        have e3 : IntKind.i64.wrap (q : Int) = (q : Int) := IntWalk.i64_in _ (by omega)
                                        unfold execOp; go_simp) R4.out ?_
                                      simp only [Act.put, Act.eval, List.setIfInBounds_toArray, List.set_cons_succ, List.set_cons_zero]
                                      refine held_take (fuel := 6) (i := 4) (v := .pointer (some ⟨g2, q * 3, none⟩)) 95 rfl rfl (by kernel_rfl) (by kernel_rfl) (by kernel_rfl) (fun _ _ _ h => h) (by
                                        refine .inl ⟨by kernel_rfl, fun wx hx => ?_⟩
                                        have i1 : (q : Int) < (q : Int) + 1 := by omega
                                        have i2 : q < q + 1 := by omega
                                        unfold execOp; go_simp) R4.out ?_
                                      simp only [Act.put, Act.eval, List.setIfInBounds_toArray, List.set_cons_succ, List.set_cons_zero]
                                      refine held_take (fuel := 5) (i := 5) (v := .pointer (some ⟨g2, q * 3, none⟩)) 96 rfl rfl (by kernel_rfl) (by kernel_rfl) (by kernel_rfl) (fun _ _ _ h => h) (by refine .inl ⟨by kernel_rfl, fun wx hx => ?_⟩; unfold execOp; go_simp) R4.out ?_
                                      simp only [Act.put, Act.eval, List.setIfInBounds_toArray, List.set_cons_succ, List.set_cons_zero]
                                      refine held_take (fuel := 4) (i := 6) (v := .string p.1) 97 rfl rfl (by kernel_rfl) (by kernel_rfl) (by kernel_rfl) (fun _ _ _ h => h) (by
                                        refine .inl ⟨by kernel_rfl, fun wx hx => ?_⟩
                                        have c0 : wx.cell? ⟨g2, q * 3, none⟩ = some (.string p.1) := hx 0 (.string p.1) rfl
                                        unfold execOp; go_simp) R4.out ?_
                                      simp only [Act.put, Act.eval, List.setIfInBounds_toArray, List.set_cons_succ, List.set_cons_zero]
                                      refine held_ready (fuel := 3) 7 (by kernel_rfl) ?_
                                      refine held_byte1 rfl (by kernel_rfl) 98 rfl rfl ⟨World.rangeAt_alloc R4.out _, ?_⟩
                                      simp only [Act.put, Act.eval, List.setIfInBounds_toArray, List.set_cons_succ, List.set_cons_zero]
                                      refine held_ready (fuel := 2) 8 (by kernel_rfl) ?_
                                      refine held_str rfl (by kernel_rfl) 99 rfl _ rfl _ rfl (Bk.new _ _ _) ⟨World.rangeAt_alloc R4.out _, ?_⟩
                                      simp only [Act.put, Act.eval, List.setIfInBounds_toArray, List.set_cons_succ, List.set_cons_zero]
                                      refine held_take (fuel := 1) (i := 9) (v := .string (kNul p.1)) 100 rfl rfl (by kernel_rfl) (by kernel_rfl) (by kernel_rfl) (fun _ _ _ h => h) (by
                                        refine .inl ⟨by kernel_rfl, fun wx hx => ?_⟩
                                        unfold execOp; go_simp; rw [if_neg (by omega)]; rfl) (World.rangeAt_alloc R4.out _) ?_
                                      simp only [Act.put, Act.eval, List.setIfInBounds_toArray, List.set_cons_succ, List.set_cons_zero]
                                      refine held_take (fuel := 0) (i := 10) 15 rfl rfl (by kernel_rfl) (by kernel_rfl) (by kernel_rfl) (fun _ _ _ h => h) (held_assign _ rfl (by kernel_rfl)) (World.rangeAt_alloc R4.out _) ?_
                                      refine wpAnyH_done (by kernel_rfl) ?_ _
                                      simp only [Act.put, Act.eval, List.setIfInBounds_toArray, List.set_cons_succ, List.set_cons_zero]
                                      have V5 := Lib.hid (SV.alloc (w := { w4 with drawn := w4.drawn + 1 }) V4.out.drew (.cells #[.int .u8 0] 5))
                                      have W5 := Lib.hid (World.ownsRow.alloc (w := { w4 with drawn := w4.drawn + 1 }) W4.out (.cells #[.int .u8 0] 5))
                                      have P5 := Lib.hid (World.ownsRow.alloc (w := { w4 with drawn := w4.drawn + 1 }) P4.out (.cells #[.int .u8 0] 5))
                                      have B5 := Lib.hid (Below.alloc (w := { w4 with drawn := w4.drawn + 1 }) B4.out.drew B4.out.size (.cells #[.int .u8 0] 5))
                                      have S5 := Lib.hid (show PC ≤ (World.alloc { w4 with drawn := w4.drawn + 1 } (.cells #[.int .u8 0] 5)).heap.size from Nat.le_trans S4.out (by simp))
                                      clear V4 W4 P4 B4 S4 R4
                                      generalize World.alloc { w4 with drawn := w4.drawn + 1 } (.cells #[.int .u8 0] 5) = w5 at *
                                      go_wp2
                                      go_roundw
                                      case rel => exact ⟨t + (q + 1), kNul p.1, rfl, QB.out.1, by have := HLT.out; have := HWL.out; have := QB.out; omega, by unfold KOwn; rw [show (L.take (t + (q + 1))).length = t + (q + 1) from by rw [List.length_take]; have := QB.out; omega]; exact P5.out, N8.out, NX.out, V5.out, W5.out, B5.out, S5.out⟩
                                      case measure => have := HLT.out; simp [lenOfV]; omega
                        · have hge : wl ≤ t := by omega
                          have hgei : ¬ (t : Int) < (wl : Int) := by omega
                          have KO := Lib.hid (show KOwn wr PC (.slice pa t pc) (L.take t) from by unfold KOwn; rw [show (L.take t).length = t from by rw [List.length_take]; have := TL.out; omega]; exact PO.out)
                          have KA := Lib.hid (kat_pre KO.out (by rw [List.length_take]; have := TL.out; omega) HWL.out.1 hge)
                          have KB := Lib.hid (KOwn.at_ (show KOwn wr PB (.slice xa wl xc) (L.take 64) from by unfold KOwn; rw [← HWL.out.1]; exact WO.out))
                          have CS := Lib.hid (tsame_any KA.out KB.out (by rw [← HWL.out.1]; have := HWL.out; omega))
                          have hwb : wl ≤ 9223372036854775807 := by have := HWL.out; omega
                          have hpo := PO.out.2
                          clear hlt KO KA KB PO
                          rcases hpo with ⟨hv, h0⟩ | ⟨g3, cap, cur, hv, -, -, hcap, -⟩
                          · obtain ⟨rfl, -, rfl⟩ : pa = none ∧ t = 0 ∧ pc = 0 := by simpa using hv
                            subst h0
                            obtain rfl : wl = 0 := by omega
                            as_aux_lemma =>
                                go_wp2_with fail
                                refine CS.out.mono ?_
                                rintro e w10 ⟨rfl, hb3⟩
                                have B10 := Lib.hid (below_then B1.out (below_then BW.out hb3 BW.out.size) B1.out.size)
                                clear hb3 CS BW
                                go_wp2
                                go_ret
                                exact ⟨rfl, B10.out⟩
                          · obtain ⟨rfl, rfl⟩ : pa = some ⟨g3, 0, none⟩ ∧ pc = cap := by simpa using hv
                            have hwp : wl ≤ pc := by omega
                            have hwpi : (wl : Int) ≤ (pc : Int) := by omega
                            as_aux_lemma =>
                                go_wp2_with fail
                                refine CS.out.mono ?_
                                rintro e w10 ⟨rfl, hb3⟩
                                have B10 := Lib.hid (below_then B1.out (below_then BW.out hb3 BW.out.size) B1.out.size)
                                clear hb3 CS BW
                                go_wp2
                                go_ret
                                exact ⟨rfl, B10.out⟩
end Go.Proofs.Ytkehknokfenioaa
