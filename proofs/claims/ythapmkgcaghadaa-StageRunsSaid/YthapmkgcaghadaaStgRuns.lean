/- StageRuns. -/
import Derived.Test.YthapmkgcaghadaaStgJs
set_option linter.unusedVariables false
set_option linter.unusedSimpArgs false
namespace Go.Proofs.Ythapmkgcaghadaa
open Go.RowKit Go.Maps

theorem held_load {P : Program} {ops : Array Oper} {o : Oper} {a : Act} {S : World → Prop} (ty : TypeId) (y : Operand) (ho : o.op = .load ty y) (hw : Region.wanted o (yielded ops a.tmps) = true) (p : Addr) (u : Value) (hx : a.eval y = .pointer (some p)) (hr : ∀ w, S w → (loadVar ty p).run P w = .ok u w) : YieldsIf P ops S o u a := by
  refine held_run u hw fun w h => ?_
  unfold execOp
  simp only [ho, hx, Instr.loadAt, Instr.sureAddr, Sem.run_bind, Sem.run_pure, Result.andThen_ok, hr w h]
theorem build_im2 {ops : Array Oper} {rest : List Oper} {o : Oper} {a : Act} {w : World} {Q : Exit → Act → World → Prop} (hg : o.guard = none) (x y : Operand) (ho : o.op = .build 59 #[(0, x), (1, y)]) (id : Int) (p : Pg) (i : Im) (hi : i = ⟨id, p⟩)
    (hx : a.eval x = .int .i64 id) (hy : a.eval y = .agg p.cs) (h : wpList Try.prog ops Q rest (a.put o.dst (.agg i.cs)) w) : wpList Try.prog ops Q (o :: rest) a w := by
  subst hi
  exact build_im hg x y ho ⟨id, p⟩ hx hy h
theorem slice2_im {ops : Array Oper} {rest : List Oper} {o : Oper} {a : Act} {w : World} {Q : Exit → Act → World → Prop} (hg : o.guard = none) (x y : Operand) (ho : o.op = .buildSlice 35 2 #[(0, x), (1, y)]) (i1 i2 : Im)
    (hx : a.eval x = .agg i1.cs) (hy : a.eval y = .agg i2.cs) (arr : Array Value) (he : arr = (flatIm [i1, i2]).toArray) (h : wpList Try.prog ops Q rest (a.put o.dst (.slice (some ⟨w.heap.size, 0, none⟩) 2 2)) (w.alloc (.cells arr 59))) : wpList Try.prog ops Q (o :: rest) a w := by
  subst he
  obtain ⟨i0, hi0, hz0, hz1, hz2⟩ := info_parts Try.info59
  refine wpList_buildSlice hg 35 59 2 #[(0, x), (1, y)] ho (flatIm [i1, i2]).toArray i0 _ Try.underlying35 hi0 hz0 (by rw [hz1]; decide) (by rw [hz1]; decide) ?_ h
  rw [hz1]
  simp only [List.map_toArray, List.map_cons, List.map_nil, hx, hy]
  kernel_rfl
set_option maxRecDepth 100000 in
set_option maxHeartbeats 40000000 in
theorem walk_StageRuns (n : Int) (v1 : Value) (u : List Cl) (w : World) (hn1 : -9223372036854775808 ≤ n) (hn2 : n ≤ 9223372036854775807) (h1 : IsCls w v1 u) :
    Calls Try.prog 3 #[.int .i64 n, v1] w fun e w' => e = .returned (.bool true) ∧ Below w.heap.size w w' := by
  have U := Lib.hid h1
  obtain ⟨ua, uc, rfl, ux⟩ := h1.at_
  have CA := Lib.hid (awake_any w)
  clear h1 ux
  go_enter Try.func3, Try.ntmps3
  go_wp2_with fail
  refine CA.out.mono ?_
  rintro e w1 ⟨rfl, hb⟩
  have B1 := Lib.hid hb
  clear hb CA
  by_cases hn : 1 ≤ n ∧ n ≤ 1024
  rotate_left
  · have CM := Lib.hid (memory_no n w1 hn)
    have HN := Lib.hid hn
    clear hn
    go_wp2_with fail
    refine CM.out.mono ?_
    rintro e w2 ⟨rfl, rfl⟩
    by_cases h1 : n < 1
    · go_wp2
      go_ret
      exact ⟨rfl, B1.out⟩
    · have h2 : (1024 : Int) < n := by have := HN.out; omega
      go_wp2
      go_ret
      exact ⟨rfl, B1.out⟩
  obtain ⟨N, rfl⟩ : ∃ N : Nat, n = N := ⟨n.toNat, by omega⟩
  have NL := Lib.hid hn
  have CM := Lib.hid (memory_good N w1 (by omega) (by omega))
  have hn3 : ¬ (N : Int) < 1 := by omega
  have hn4 : ¬ (1024 : Int) < (N : Int) := by omega
  have NN := Lib.hid (show 1 ≤ N ∧ N ≤ 1024 by omega)
  clear hn
  go_wp2_with fail
  refine CM.out.mono ?_
  rintro e w2 ⟨gs, r, rfl, hS, hb⟩
  have RB := Lib.hid (show w.heap.size ≤ r ∧ r < w2.heap.size from ⟨Nat.le_trans B1.out.size hS.br, Bk.lt hS.row⟩)
  have S2 := Lib.hid (show Sh w2 w.heap.size gs r (List.replicate N Pg.zero) from ⟨hS.box, hS.row, hS.one, hS.most, Nat.le_trans B1.out.size hS.bg, RB.out.1⟩)
  have B2 := Lib.hid (below_then B1.out hb B1.out.size)
  clear hS hb CM B1
  obtain ⟨i0, hi, hz0, hz1, hz2⟩ := info_parts Try.info42
  have hmk := fun wx => run_make (P := Try.prog) wx 29 42 i0 (.agg Pg.zero.cs) Try.underlying29 hi hz0 .i64 .i64 (N : Int) (N : Int) (by omega) (by omega) (by rw [hz2]; have := NN.out; omega) (by have := NN.out; omega)
  simp only [hz1, Value.cells, Int.toNat_natCast, zeroPg] at hmk
  as_aux_lemma =>
    go_upto_region 7 with fail
    have hl : (List.replicate N Pg.zero).length = N := List.length_replicate
    have R3 := Lib.hid (show RS ((w2.alloc (.cells (flatPg (List.replicate N Pg.zero)).toArray 42)).alloc (.cells #[.slice (some ⟨w2.heap.size, 0, none⟩) N N] 31)) w.heap.size (w2.heap.size + 1) w2.heap.size (List.replicate N Pg.zero) from by
      refine ⟨?_, (Bk.new w2 _ _).alloc _, by rw [hl]; exact NN.out.1, by rw [hl]; exact NN.out.2, by have := B2.out.size; omega, B2.out.size⟩
      rw [hl]
      exact Bk.new2 w2 _ _ _)
    have hbb := ((Below.refl w2.heap.size w2).alloc (Nat.le_refl _) (.cells (flatPg (List.replicate N Pg.zero)).toArray 42)).alloc (by simp) (.cells #[.slice (some ⟨w2.heap.size, 0, none⟩) N N] 31)
    have S3 := Lib.hid (S2.out.kept hbb)
    have B3 := Lib.hid (below_then B2.out hbb B2.out.size)
    clear hbb hl hmk S2 B2
    generalize ((w2.alloc (.cells (flatPg (List.replicate N Pg.zero)).toArray 42)).alloc (.cells #[.slice (some ⟨w2.heap.size, 0, none⟩) N N] 31)) = w3 at *
    obtain ⟨k, hk⟩ : ∃ k, k = w2.heap.size + 1 := ⟨_, rfl⟩
    rw [← hk] at R3 ⊢
    have NE := Lib.hid (show r ≠ w2.heap.size from Nat.ne_of_lt RB.out.2)
    generalize w2.heap.size = r2 at *
    generalize List.replicate N Pg.zero = ps0 at *
    clear hk RB
    as_aux_lemma =>
      go_wp2_with fail
      refine (ss_new S3.out B3.out.size).mono ?_
      rintro e w4 ⟨g, b, rfl, hs, hb, -, -⟩
      obtain ⟨t, ht⟩ : ∃ t, t = w4.heap.size := ⟨_, rfl⟩
      have J4 := Lib.hid (show JS (w4.alloc (.cells #[.pointer (some ⟨k, 0, none⟩), .slice none 0 0] 37)) w.heap.size g b 0 gs r ps0 [] k r2 t (.slice none 0 0) from
        ⟨hs.alloc _, ⟨(R3.out.kept hb).kept ((Below.refl _ _).alloc (Nat.le_refl _) _), by rw [ht]; exact Bk.new w4 _ _, World.ownsRow_nil _ _ _ _, by rw [ht]; have := B3.out.size; have := hb.size; omega, List.Pairwise.nil, fun i hi => by cases hi⟩, NE.out⟩)
      have B4 := Lib.hid ((below_then B3.out hb B3.out.size).alloc (by have := B3.out.size; have := hb.size; omega) (.cells #[.pointer (some ⟨k, 0, none⟩), .slice none 0 0] 37))
      clear hs hb S3 B3 R3
      as_aux_lemma =>
        go_upto_region 9 with fail
        rw [← ht]
        clear ht
        generalize w4.alloc (.cells #[.pointer (some ⟨k, 0, none⟩), .slice none 0 0] 37) = w5 at *
        go_wp2_with fail
        go_loopw [59] (fun i wr => ∃ (j m : Nat) (ps : List Pg) (l : List Im) (v : Value), j ≤ u.length ∧ m ≤ j ∧ i = .int .i64 j ∧ JS wr w.heap.size g b m gs r ps l k r2 t v ∧ Below w.heap.size w wr) (fun i _ => u.length - (intOf i).toNat)
        case atStart => exact ⟨0, 0, ps0, [], _, Nat.zero_le _, Nat.le_refl _, rfl, J4.out, B4.out⟩
        case round =>
          obtain ⟨j, m, ps, l, v, hj, hmj, rfl, hJ, hb⟩ := hrel
          have J5 := Lib.hid hJ; have B5 := Lib.hid hb; have MJ := Lib.hid hmj
          clear hJ hb hmj J4 B4
          by_cases hlt : j < u.length
          · have HLT := Lib.hid hlt
            have hjb : j < 9223372036854775807 := by have := U.out.len; simp only [maxLen] at this; omega
            have HJB := Lib.hid hjb
            obtain ⟨c, hc⟩ : ∃ c, u[j]? = some c := ⟨_, List.getElem?_eq_getElem hlt⟩
            obtain ⟨a', c', e1, hat⟩ := (U.out.at_.below B5.out)
            obtain ⟨b1, off, e2, hb1, hra⟩ := hat (by omega)
            obtain ⟨rfl, rfl⟩ : ua = some ⟨b1, off, none⟩ ∧ uc = c' := by rw [e2] at e1; simpa using e1
            have RA := Lib.hid (hra j c hc)
            have BN := Lib.hid (B5.out.alloc B5.out.size (.cells c.cs 44))
            have JN := Lib.hid (J5.out.alloc (.cells c.cs 44))
            have KN := Lib.hid (Bk.new wr 44 c.cs)
            have C64 := Lib.hid ((U.out.bd c (List.mem_of_getElem? hc)).2.1)
            have MX := Lib.hid (show m < maxLen by have := MJ.out; simp only [maxLen]; omega)
            have LL := Lib.hid J5.out.rt.len
            obtain ⟨G, hG⟩ : ∃ G, G = wr.heap.size := ⟨_, rfl⟩
            rw [← hG] at KN
            clear e1 hat e2 hb1 hra hc J5 B5
            as_aux_lemma =>
              go_upto_region 12 with (first | (refine load_cl_off rfl _ rfl b1 off j c rfl RA.out ?_) | (refine store_cl_new rfl _ _ rfl c rfl rfl ?_; rw [← hG]; clear hG; generalize wr.alloc (.cells c.cs 44) = w6 at *))
              have x0 : w6.cell? ⟨G, 0, none⟩ = some (.int .i64 c.k) := KN.out.cell 0
              have x1 : w6.cell? ⟨G, 1, none⟩ = some (.int .i64 c.id) := KN.out.cell 1
              clear RA
              by_cases hk0 : c.k = 0
              · obtain ⟨p, hp⟩ : ∃ p, p = (ssGet ps l c.id).1 := ⟨_, rfl⟩
                obtain ⟨er, her⟩ : ∃ er, er = (ssGet ps l c.id).2 := ⟨_, rfl⟩
                have hpe : ssGet ps l c.id = (p, er) := by rw [hp, her]
                have CG := Lib.hid (ss_get JN.out.ss c.id C64.out.1 C64.out.2)
                rw [hpe] at CG
                clear hp her
                have PE := Lib.hid hpe
                clear hpe
                go_wp2_with fail
                refine CG.out.mono ?_
                rintro e w7 ⟨rfl, hb⟩
                have hbb := hb.alloc hb.size (.cells p.cs 42)
                have J7 := Lib.hid (JN.out.kept hbb)
                have B7 := Lib.hid (below_then BN.out hbb BN.out.size)
                have K7 := Lib.hid (Bk.kept KN.out hbb)
                have P7 := Lib.hid (Bk.new w7 42 p.cs)
                obtain ⟨G2, hG2⟩ : ∃ G2, G2 = w7.heap.size := ⟨_, rfl⟩
                rw [← hG2] at P7
                clear hb hbb CG JN BN KN x0 x1
                dsimp only
                as_aux_lemma =>
                  go_upto_region 19 with (refine store_page_new rfl _ _ rfl p rfl rfl ?_; rw [← hG2]; clear hG2; generalize w7.alloc (.cells p.cs 42) = w8 at *)
                  have x1 : w8.cell? ⟨G, 1, none⟩ = some (.int .i64 c.id) := K7.out.cell 1
                  have CG := Lib.hid (rtget_any J7.out.rt c.id)
                  rw [PE.out] at CG
                  go_wp2_with fail
                  refine CG.out.mono ?_
                  rintro e w9 ⟨rfl, hb⟩
                  have hbb := hb.alloc hb.size (.cells p.cs 42)
                  have J9 := Lib.hid (J7.out.kept hbb)
                  have B9 := Lib.hid (below_then B7.out hbb B7.out.size)
                  have P9 := Lib.hid (Bk.kept P7.out hbb)
                  have Q9 := Lib.hid (Bk.new w9 42 p.cs)
                  obtain ⟨G3, hG3⟩ : ∃ G3, G3 = w9.heap.size := ⟨_, rfl⟩
                  rw [← hG3] at Q9
                  have NEQ := fun w => page_neq p p w
                  rw [pgB_self] at NEQ
                  clear hb hbb CG J7 B7 K7 P7 x1
                  dsimp only
                  as_aux_lemma =>
                    go_upto_region 20 with (refine store_page_new rfl _ _ rfl p rfl rfl ?_; rw [← hG3]; clear hG3; generalize w9.alloc (.cells p.cs 42) = w10 at *)
                    go_wp2_with (first | (refine load_page rfl _ rfl G2 p rfl P9.out ?_) | (refine load_page rfl _ rfl G3 p rfl Q9.out ?_))
                    go_roundw
                    case rel => exact ⟨j + 1, m, _, _, _, by have := HLT.out; omega, by have := MJ.out; omega, by go_num, J9.out, B9.out⟩
                    case measure => have := HLT.out; simp [intOf]; omega
              by_cases hk1 : c.k = 1
              · obtain ⟨id, hid⟩ : ∃ id, id = c.id := ⟨_, rfl⟩
                obtain ⟨p, hp⟩ : ∃ p, p = c.p := ⟨_, rfl⟩
                have CS := Lib.hid (fun (w' : World) (h : SS w' w.heap.size g b m gs r ps l) => ss_set h id p MX.out)
                have CR := Lib.hid (fun (w' : World) (h : RT w' w.heap.size k r2 ps t v l) (hB : w.heap.size ≤ w'.heap.size) => rset_any h hB id p)
                have KC := Lib.hid (fun (w' : World) (h : Bk w' G 44 c.cs) => (show w'.cell? ⟨G, 1, none⟩ = some (.int .i64 id) by rw [hid]; exact h.cell 1))
                have KP := Lib.hid (fun (w' : World) (h : Bk w' G 44 c.cs) => (show (loadVar 42 ⟨G, 2, none⟩).run Try.prog w' = .ok (.agg p.cs) w' by rw [hp]; exact ld_page (cl_page h)))
                generalize setE id p = se at *
                generalize setL l id p = sl at *
                clear x1 hid hp
                go_upto_region 23 with fail
                refine wp_region_held (S := fun w' => Bk w' G 44 c.cs) (by kernel_rfl) ?_
                refine held_take (fuel := 12) (i := 0) 113 rfl rfl (by kernel_rfl) (by kernel_rfl) (by kernel_rfl) (fun _ _ _ h => h) (held_move _ rfl (by kernel_rfl)) KN.out.drew ?_
                refine held_take (fuel := 11) (i := 1) 114 rfl rfl (by kernel_rfl) (by kernel_rfl) (by kernel_rfl) (fun _ _ _ h => h) (held_run (.pointer (some ⟨G, 1, none⟩)) (by kernel_rfl) (fun w h => by kernel_rfl)) KN.out.drew ?_
                simp only [Act.put, Act.eval, List.setIfInBounds_toArray, List.set_cons_succ, List.set_cons_zero]
                refine held_take (fuel := 10) (i := 2) 115 rfl rfl (by kernel_rfl) (by kernel_rfl) (by kernel_rfl) (fun _ _ _ h => h) (held_load 3 _ rfl (by kernel_rfl) ⟨G, 1, none⟩ (.int .i64 id) rfl (fun w h => ld_int (KC.out w h))) KN.out.drew ?_
                refine held_take (fuel := 9) (i := 3) 116 rfl rfl (by kernel_rfl) (by kernel_rfl) (by kernel_rfl) (fun _ _ _ h => h) (held_run (.pointer (some ⟨G, 2, none⟩)) (by kernel_rfl) (fun w h => by kernel_rfl)) KN.out.drew ?_
                simp only [Act.put, Act.eval, List.setIfInBounds_toArray, List.set_cons_succ, List.set_cons_zero]
                refine held_take (fuel := 8) (i := 4) 117 rfl rfl (by kernel_rfl) (by kernel_rfl) (by kernel_rfl) (fun _ _ _ h => h) (held_load 42 _ rfl (by kernel_rfl) ⟨G, 2, none⟩ (.agg p.cs) rfl (fun w h => KP.out w h)) KN.out.drew ?_
                simp only [Act.put, Act.eval, List.setIfInBounds_toArray, List.set_cons_succ, List.set_cons_zero]
                refine held_take (fuel := 7) (i := 6) 119 rfl rfl (by kernel_rfl) (by kernel_rfl) (by kernel_rfl) (fun _ _ _ h => h) (held_move _ rfl (by kernel_rfl)) KN.out.drew ?_
                refine held_take (fuel := 6) (i := 7) 120 rfl rfl (by kernel_rfl) (by kernel_rfl) (by kernel_rfl) (fun _ _ _ h => h) (held_run (.pointer (some ⟨G, 1, none⟩)) (by kernel_rfl) (fun w h => by kernel_rfl)) KN.out.drew ?_
                simp only [Act.put, Act.eval, List.setIfInBounds_toArray, List.set_cons_succ, List.set_cons_zero]
                refine held_take (fuel := 5) (i := 8) 121 rfl rfl (by kernel_rfl) (by kernel_rfl) (by kernel_rfl) (fun _ _ _ h => h) (held_load 3 _ rfl (by kernel_rfl) ⟨G, 1, none⟩ (.int .i64 id) rfl (fun w h => ld_int (KC.out w h))) KN.out.drew ?_
                refine held_take (fuel := 4) (i := 9) 122 rfl rfl (by kernel_rfl) (by kernel_rfl) (by kernel_rfl) (fun _ _ _ h => h) (held_run (.pointer (some ⟨G, 2, none⟩)) (by kernel_rfl) (fun w h => by kernel_rfl)) KN.out.drew ?_
                simp only [Act.put, Act.eval, List.setIfInBounds_toArray, List.set_cons_succ, List.set_cons_zero]
                refine held_take (fuel := 3) (i := 10) 123 rfl rfl (by kernel_rfl) (by kernel_rfl) (by kernel_rfl) (fun _ _ _ h => h) (held_load 42 _ rfl (by kernel_rfl) ⟨G, 2, none⟩ (.agg p.cs) rfl (fun w h => KP.out w h)) KN.out.drew ?_
                simp only [Act.put, Act.eval, List.setIfInBounds_toArray, List.set_cons_succ, List.set_cons_zero]
                refine held_ready (fuel := 2) 5 (by kernel_rfl) ?_
                refine held_call rfl (by kernel_rfl) 118 rfl 12 #[.pointer (some ⟨g, 0, none⟩), .int .i64 id, .agg p.cs] (by kernel_rfl) ?_
                have JD := Lib.hid (JN.out.kept (Below.refl _ _).drew)
                refine (CS.out _ JD.out.ss).mono ?_
                rintro e w7 ⟨rfl, hS, hg⟩
                have RT7 := Lib.hid (JD.out.map_turn hg)
                have S7 := Lib.hid hS
                have K7 := Lib.hid (Bk.grown KN.out.drew hg (fun e => by injection e with e; exact (JD.out.ss.sg.mp.ne_bk KN.out.drew) e.symm))
                have B7 := Lib.hid (bl_grow BN.out.drew hg (fun j hj => by cases hj; exact JD.out.ss.sg.bb) BN.out.size)
                have JNE := Lib.hid JN.out.ne
                clear hS hg JD JN BN CS
                refine ⟨_, rfl, K7.out, ?_⟩
                simp only [Act.put, Act.eval, List.setIfInBounds_toArray, List.set_cons_succ, List.set_cons_zero]
                refine held_ready (fuel := 1) 11 (by kernel_rfl) ?_
                refine held_call rfl (by kernel_rfl) 124 rfl 13 #[.pointer (some ⟨t, 0, none⟩), .int .i64 id, .agg p.cs] (by kernel_rfl) ?_
                refine (CR.out _ RT7.out B7.out.size).mono ?_
                rintro e w8 ⟨rfl, v8, hR, hg⟩
                have J8 := Lib.hid (show JS w8 w.heap.size g b (m + 1) gs r ps sl k r2 t v8 from ⟨S7.out.ref_turn RT7.out hg, hR, JNE.out⟩)
                have B8 := Lib.hid (bl_grow B7.out hg (fun j hj => by cases hj; exact RT7.out.bt) B7.out.size)
                have K8 := Lib.hid (Bk.grown K7.out hg (fun e => by injection e with e; exact Bk.ne_ K7.out RT7.out.box (by decide) e))
                clear hR hg RT7 S7 K7 B7
                refine ⟨_, rfl, K8.out, ?_⟩
                simp only [Act.put, Act.eval, List.setIfInBounds_toArray, List.set_cons_succ, List.set_cons_zero]
                refine held_take (fuel := 0) (i := 12) 125 rfl rfl (by kernel_rfl) (by kernel_rfl) (by kernel_rfl) (fun _ _ _ h => h) (held_run (.bool false) (by kernel_rfl) (fun w h => by unfold execOp; go_simp)) K8.out ?_
                refine wpAnyH_done (by kernel_rfl) ?_ _
                simp only [Act.put, Act.eval, List.setIfInBounds_toArray, List.set_cons_succ, List.set_cons_zero]
                go_wp2_with fail
                go_roundw
                case rel => exact ⟨j + 1, m + 1, _, _, _, by have := HLT.out; omega, by have := MJ.out; omega, by go_num, J8.out, B8.out⟩
                case measure => have := HLT.out; simp [intOf]; omega
              by_cases hk2 : c.k = 2
              · have CI := Lib.hid (ss_images JN.out.ss)
                by_cases he : errL (getPg ps) l = 0
                · have HE := Lib.hid he
                  go_wp2_with fail
                  refine CI.out.mono ?_
                  rintro e w7 (⟨hne, -, -⟩ | ⟨-, va, rfl, hv, hb⟩)
                  · exact absurd HE.out hne
                  have V7 := Lib.hid hv
                  have J7 := Lib.hid (JN.out.kept hb)
                  have B7 := Lib.hid (below_then BN.out hb BN.out.size)
                  have K7 := Lib.hid (Bk.kept KN.out hb)
                  have CJ := Lib.hid (rims_any J7.out.rt)
                  clear hv hb CI JN BN KN x0 x1 he
                  as_aux_lemma =>
                    go_wp2_with fail
                    refine CJ.out.mono ?_
                    rintro e w8 (⟨hne, -, -⟩ | ⟨-, vb, rfl, hv, hb⟩)
                    · exact absurd HE.out hne
                    have V8 := Lib.hid (show IOwn w8 w6.heap.size va (outL (getPg ps) l) from ow_kept V7.out hb)
                    have U8 := Lib.hid hv
                    have J8 := Lib.hid (J7.out.kept hb)
                    have B8 := Lib.hid (below_then B7.out hb B7.out.size)
                    have K8 := Lib.hid (Bk.kept K7.out hb)
                    have OL := Lib.hid (show (outL (getPg ps) l).length ≤ 1024 from Nat.le_trans (List.length_filter_le _ _) LL.out)
                    have CQ := Lib.hid (same_any V8.out U8.out OL.out)
                    clear hv hb CJ J7 B7 K7 V7
                    as_aux_lemma =>
                      go_wp2_with fail
                      refine CQ.out.mono ?_
                      rintro e w9 ⟨rfl, hb⟩
                      have V9 := Lib.hid (show IOwn w9 w6.heap.size va (outL (getPg ps) l) from ow_kept V8.out hb)
                      have U9 := Lib.hid (show IOwn w9 w7.heap.size vb (outL (getPg ps) l) from ow_kept U8.out hb)
                      have J9 := Lib.hid (J8.out.kept hb)
                      have B9 := Lib.hid (below_then B8.out hb B8.out.size)
                      have K9 := Lib.hid (Bk.kept K8.out hb)
                      have x0 : w9.cell? ⟨G, 0, none⟩ = some (.int .i64 c.k) := K9.out.cell 0
                      clear hb CQ J8 B8 K8 V8 U8
                      go_wp2_with fail
                      go_roundw
                      case rel => exact ⟨j + 1, m, _, _, _, by have := HLT.out; omega, by have := MJ.out; omega, by go_num, J9.out, B9.out⟩
                      case measure => have := HLT.out; simp [intOf]; omega
                · have HE := Lib.hid he
                  obtain ⟨er, her⟩ : ∃ er, er = errL (getPg ps) l := ⟨_, rfl⟩
                  have hn : (er != 0) = true := by rw [her]; simp [he]
                  have hn2 : (er == 0) = false := by rw [her]; simp [he]
                  have hn3 : ¬ er = 0 := by rw [her]; exact he
                  have HR := Lib.hid her
                  go_wp2_with fail
                  refine CI.out.mono ?_
                  rintro e w7 (⟨-, rfl, hb⟩ | ⟨h0, -⟩)
                  rotate_left
                  · exact absurd h0 HE.out
                  rw [← HR.out]
                  have J7 := Lib.hid (JN.out.kept hb)
                  have B7 := Lib.hid (below_then BN.out hb BN.out.size)
                  have K7 := Lib.hid (Bk.kept KN.out hb)
                  have CJ := Lib.hid (rims_any J7.out.rt)
                  clear hb CI JN BN KN x0 x1 he her
                  as_aux_lemma =>
                    go_wp2_with fail
                    refine CJ.out.mono ?_
                    rintro e w8 (⟨-, rfl, hb⟩ | ⟨h0, -⟩)
                    rotate_left
                    · exact absurd h0 HE.out
                    rw [← HR.out]
                    have J8 := Lib.hid (J7.out.kept hb)
                    have B8 := Lib.hid (below_then B7.out hb B7.out.size)
                    have K8 := Lib.hid (Bk.kept K7.out hb)
                    have N0 : IOwn w8 0 (.slice none 0 0) [] := World.ownsRow_nil _ _ _ _
                    have CQ := Lib.hid (same_any (l := []) N0 N0 (by decide))
                    clear N0
                    clear hb CJ J7 B7 K7
                    as_aux_lemma =>
                      go_wp2_with fail
                      refine CQ.out.mono ?_
                      rintro e w9 ⟨rfl, hb⟩
                      have J9 := Lib.hid (J8.out.kept hb)
                      have B9 := Lib.hid (below_then B8.out hb B8.out.size)
                      have K9 := Lib.hid (Bk.kept K8.out hb)
                      have x0 : w9.cell? ⟨G, 0, none⟩ = some (.int .i64 c.k) := K9.out.cell 0
                      clear hb CQ J8 B8 K8
                      go_wp2_with fail
                      go_roundw
                      case rel => exact ⟨j + 1, m, _, _, _, by have := HLT.out; omega, by have := MJ.out; omega, by go_num, J9.out, B9.out⟩
                      case measure => have := HLT.out; simp [intOf]; omega
              by_cases hk4 : c.k = 4
              · have CI := Lib.hid (ss_images JN.out.ss)
                by_cases he : errL (getPg ps) l = 0
                · have HE := Lib.hid he
                  go_wp2_with fail
                  refine CI.out.mono ?_
                  rintro e w7 (⟨hne, -, -⟩ | ⟨-, va, rfl, hv, hb⟩)
                  · exact absurd HE.out hne
                  have V7 := Lib.hid hv
                  have J7 := Lib.hid (JN.out.kept hb)
                  have B7 := Lib.hid (below_then BN.out hb BN.out.size)
                  have K7 := Lib.hid (Bk.kept KN.out hb)
                  have CJ := Lib.hid (rims_any J7.out.rt)
                  clear hv hb CI JN BN KN x0 x1 he
                  as_aux_lemma =>
                    go_wp2_with fail
                    refine CJ.out.mono ?_
                    rintro e w8 (⟨hne, -, -⟩ | ⟨-, vb, rfl, hv, hb⟩)
                    · exact absurd HE.out hne
                    have V8 := Lib.hid (show IOwn w8 w6.heap.size va (outL (getPg ps) l) from ow_kept V7.out hb)
                    have U8 := Lib.hid hv
                    have J8 := Lib.hid (J7.out.kept hb)
                    have B8 := Lib.hid (below_then B7.out hb B7.out.size)
                    have K8 := Lib.hid (Bk.kept K7.out hb)
                    have OL := Lib.hid (show (outL (getPg ps) l).length ≤ 1024 from Nat.le_trans (List.length_filter_le _ _) LL.out)
                    have CQ := Lib.hid (same_any V8.out U8.out OL.out)
                    clear hv hb CJ J7 B7 K7 V7
                    as_aux_lemma =>
                      go_wp2_with fail
                      refine CQ.out.mono ?_
                      rintro e w9 ⟨rfl, hb⟩
                      have V9 := Lib.hid (show IOwn w9 w6.heap.size va (outL (getPg ps) l) from ow_kept V8.out hb)
                      have U9 := Lib.hid (show IOwn w9 w7.heap.size vb (outL (getPg ps) l) from ow_kept U8.out hb)
                      have J9 := Lib.hid (J8.out.kept hb)
                      have B9 := Lib.hid (below_then B8.out hb B8.out.size)
                      have K9 := Lib.hid (Bk.kept K8.out hb)
                      have x0 : w9.cell? ⟨G, 0, none⟩ = some (.int .i64 c.k) := K9.out.cell 0
                      clear hb CQ J8 B8 K8 V8 U8
                      have CA := Lib.hid (ss_apply J9.out.ss V9.out)
                      as_aux_lemma =>
                        go_wp2_with fail
                        refine CA.out.mono ?_
                        rintro e wa ⟨rfl, hS, hg⟩
                        have RTa := Lib.hid (J9.out.row_turn hg)
                        have Sa := Lib.hid hS
                        have Ua := Lib.hid (show IOwn wa w7.heap.size vb (outL (getPg ps) l) from ow_same U9.out (fun q hq => hg.block q (ow_blk U9.out hq).2.1 (fun e => by injection e with e; obtain ⟨_, _, cc, hcc⟩ := ow_blk U9.out hq; exact Bk.ne_ hcc J9.out.ss.sh.row (by decide) e)))
                        have Ba := Lib.hid (bl_grow B9.out hg (fun j hj => by cases hj; exact J9.out.ss.sh.br) B9.out.size)
                        have CB := Lib.hid (rapply_any RTa.out Ua.out OL.out)
                        have JNE := Lib.hid J9.out.ne
                        clear hS hg CA J9 B9 V9 U9 x0
                        as_aux_lemma =>
                          go_wp2_with fail
                          refine CB.out.mono ?_
                          rintro e wb ⟨rfl, hR, hg⟩
                          have Jb := Lib.hid (show JS wb w.heap.size g b m gs r (appL ps (outL (getPg ps) l)) l k r2 t v from ⟨Sa.out.ref_row RTa.out JNE.out hg, hR, JNE.out⟩)
                          have Bb := Lib.hid (bl_grow Ba.out hg (fun j hj => by cases hj; exact RTa.out.sh.br) Ba.out.size)
                          clear hR hg CB Sa RTa Ua Ba
                          go_wp2_with fail
                          go_roundw
                          case rel => exact ⟨j + 1, m, _, _, _, by have := HLT.out; omega, by have := MJ.out; omega, by go_num, Jb.out, Bb.out⟩
                          case measure => have := HLT.out; simp [intOf]; omega
                · have HE := Lib.hid he
                  obtain ⟨er, her⟩ : ∃ er, er = errL (getPg ps) l := ⟨_, rfl⟩
                  have hn : (er != 0) = true := by rw [her]; simp [he]
                  have hn2 : (er == 0) = false := by rw [her]; simp [he]
                  have hn3 : ¬ er = 0 := by rw [her]; exact he
                  have HR := Lib.hid her
                  go_wp2_with fail
                  refine CI.out.mono ?_
                  rintro e w7 (⟨-, rfl, hb⟩ | ⟨h0, -⟩)
                  rotate_left
                  · exact absurd h0 HE.out
                  rw [← HR.out]
                  have J7 := Lib.hid (JN.out.kept hb)
                  have B7 := Lib.hid (below_then BN.out hb BN.out.size)
                  have K7 := Lib.hid (Bk.kept KN.out hb)
                  have CJ := Lib.hid (rims_any J7.out.rt)
                  clear hb CI JN BN KN x0 x1 he her
                  as_aux_lemma =>
                    go_wp2_with fail
                    refine CJ.out.mono ?_
                    rintro e w8 (⟨-, rfl, hb⟩ | ⟨h0, -⟩)
                    rotate_left
                    · exact absurd h0 HE.out
                    rw [← HR.out]
                    have J8 := Lib.hid (J7.out.kept hb)
                    have B8 := Lib.hid (below_then B7.out hb B7.out.size)
                    have K8 := Lib.hid (Bk.kept K7.out hb)
                    have N0 : IOwn w8 0 (.slice none 0 0) [] := World.ownsRow_nil _ _ _ _
                    have CQ := Lib.hid (same_any (l := []) N0 N0 (by decide))
                    clear N0
                    clear hb CJ J7 B7 K7
                    as_aux_lemma =>
                      go_wp2_with fail
                      refine CQ.out.mono ?_
                      rintro e w9 ⟨rfl, hb⟩
                      have J9 := Lib.hid (J8.out.kept hb)
                      have B9 := Lib.hid (below_then B8.out hb B8.out.size)
                      have K9 := Lib.hid (Bk.kept K8.out hb)
                      have x0 : w9.cell? ⟨G, 0, none⟩ = some (.int .i64 c.k) := K9.out.cell 0
                      clear hb CQ J8 B8 K8
                      go_wp2_with fail
                      go_roundw
                      case rel => exact ⟨j + 1, m, _, _, _, by have := HLT.out; omega, by have := MJ.out; omega, by go_num, J9.out, B9.out⟩
                      case measure => have := HLT.out; simp [intOf]; omega
              by_cases hk3 : c.k = 3
              · have CD := Lib.hid (ss_drop JN.out.ss)
                go_wp2_with fail
                refine CD.out.mono ?_
                rintro e w7 ⟨rfl, hS, hg⟩
                have RT7 := Lib.hid (JN.out.map_turn hg)
                have J8 := Lib.hid (show JS (w7.setCell ⟨t, 1, none⟩ (.slice none 0 0)) w.heap.size g b 0 gs r ps [] k r2 t (.slice none 0 0) from ⟨hS.ref_turn RT7.out (only_cell w7 t 1 _), RT7.out.dropped, JN.out.ne⟩)
                have B8 := Lib.hid (bl_grow (bl_grow BN.out hg (fun j hj => by cases hj; exact JN.out.ss.sg.bb) BN.out.size) (only_cell w7 t 1 (.slice none 0 0)) (fun j hj => by cases hj; exact JN.out.rt.bt) (by have := BN.out.size; have := hg.size; omega))
                have y1 := RT7.out.box.cell 1
                have f1 := RT7.out.box.fz 1
                clear hS hg CD x0 x1
                go_wp2_with fail
                go_roundw
                case rel => exact ⟨j + 1, 0, _, _, _, by have := HLT.out; omega, by have := MJ.out; omega, by go_num, J8.out, B8.out⟩
                case measure => have := HLT.out; simp [intOf]; omega
              by_cases hk5 : c.k = 5
              · obtain ⟨i1, hi1⟩ : ∃ i1 : Im, i1 = ⟨0, c.p⟩ := ⟨_, rfl⟩
                obtain ⟨i2, hi2⟩ : ∃ i2 : Im, i2 = ⟨c.id, c.p⟩ := ⟨_, rfl⟩
                have I1 := Lib.hid hi1; have I2 := Lib.hid hi2
                obtain ⟨arr, harr⟩ : ∃ arr, arr = (flatIm [i1, i2]).toArray := ⟨_, rfl⟩
                have AR := Lib.hid harr
                have hbb := (Below.refl w6.heap.size w6).alloc (Nat.le_refl _) (.cells arr 59)
                have IO := Lib.hid (show IOwn (w6.alloc (.cells arr 59)) w6.heap.size (.slice (some ⟨w6.heap.size, 0, none⟩) 2 2) [i1, i2] from by
                  rw [harr]
                  have := World.ownsRow_lit (base := w6.heap.size) (size := 17) (e := 59) w6 (flatIm [i1, i2]).toArray 2 (Nat.le_refl _) (by decide) (by rfl)
                  exact this)
                have J7 := Lib.hid (JN.out.kept hbb)
                have B7 := Lib.hid (below_then BN.out hbb BN.out.size)
                have CA := Lib.hid (ss_apply J7.out.ss IO.out)
                clear hi1 hi2 hbb JN BN harr
                go_upto_region 37 with fail
                go_upto_region 38 with (first
                  | (refine load_cl_page rfl _ rfl G c rfl KN.out ?_)
                  | (refine build_im2 rfl _ _ rfl 0 c.p i1 I1.out rfl rfl ?_)
                  | (refine build_im2 rfl _ _ rfl c.id c.p i2 I2.out rfl rfl ?_)
                  | (refine slice2_im rfl _ _ rfl i1 i2 rfl rfl arr AR.out ?_))
                go_wp2_with fail
                refine CA.out.mono ?_
                rintro e w8 ⟨rfl, hS, hg⟩
                have RT8 := Lib.hid (J7.out.row_turn hg)
                have S8 := Lib.hid hS
                have IO8 := Lib.hid (show IOwn w8 w6.heap.size (.slice (some ⟨w6.heap.size, 0, none⟩) 2 2) [i1, i2] from ow_same IO.out (fun q hq => hg.block q (ow_blk IO.out hq).2.1 (fun e => by injection e with e; obtain ⟨_, _, cc, hcc⟩ := ow_blk IO.out hq; exact Bk.ne_ hcc J7.out.ss.sh.row (by decide) e)))
                have B8 := Lib.hid (bl_grow B7.out hg (fun j hj => by cases hj; exact J7.out.ss.sh.br) B7.out.size)
                have CB := Lib.hid (rapply_any RT8.out IO8.out (by simp))
                have JNE := Lib.hid J7.out.ne
                clear hS hg CA J7 B7 IO
                go_wp2_with fail
                refine CB.out.mono ?_
                rintro e w9 ⟨rfl, hR, hg⟩
                have J9 := Lib.hid (show JS w9 w.heap.size g b m gs r (appL ps [i1, i2]) l k r2 t v from ⟨S8.out.ref_row RT8.out JNE.out hg, hR, JNE.out⟩)
                have B9 := Lib.hid (bl_grow B8.out hg (fun j hj => by cases hj; exact RT8.out.sh.br) B8.out.size)
                clear hR hg CB S8 RT8 IO8 B8
                go_wp2_with fail
                go_roundw
                case rel => exact ⟨j + 1, m, _, _, _, by have := HLT.out; omega, by have := MJ.out; omega, by go_num, J9.out, B9.out⟩
                case measure => have := HLT.out; simp [intOf]; omega
              obtain ⟨p, hp⟩ : ∃ p, p = (getPg ps c.id).1 := ⟨_, rfl⟩
              obtain ⟨er, her⟩ : ∃ er, er = (getPg ps c.id).2 := ⟨_, rfl⟩
              have hpe : getPg ps c.id = (p, er) := by rw [hp, her]
              have CG := Lib.hid (shget_any JN.out.ss.sh c.id)
              rw [hpe] at CG
              clear hp her
              have PE := Lib.hid hpe
              clear hpe
              go_wp2_with fail
              refine CG.out.mono ?_
              rintro e w7 ⟨rfl, hb⟩
              have hbb := hb.alloc hb.size (.cells p.cs 42)
              have J7 := Lib.hid (JN.out.kept hbb)
              have B7 := Lib.hid (below_then BN.out hbb BN.out.size)
              have K7 := Lib.hid (Bk.kept KN.out hbb)
              have P7 := Lib.hid (Bk.new w7 42 p.cs)
              obtain ⟨G2, hG2⟩ : ∃ G2, G2 = w7.heap.size := ⟨_, rfl⟩
              rw [← hG2] at P7
              clear hb hbb CG JN BN KN x0 x1
              dsimp only
              as_aux_lemma =>
                go_upto_region 14 with (refine store_page_new rfl _ _ rfl p rfl rfl ?_; rw [← hG2]; clear hG2; generalize w7.alloc (.cells p.cs 42) = w8 at *)
                have x1 : w8.cell? ⟨G, 1, none⟩ = some (.int .i64 c.id) := K7.out.cell 1
                have CG := Lib.hid (rget_any J7.out.rt.sh c.id)
                rw [PE.out] at CG
                go_wp2_with fail
                refine CG.out.mono ?_
                rintro e w9 ⟨rfl, hb⟩
                have hbb := hb.alloc hb.size (.cells p.cs 42)
                have J9 := Lib.hid (J7.out.kept hbb)
                have B9 := Lib.hid (below_then B7.out hbb B7.out.size)
                have P9 := Lib.hid (Bk.kept P7.out hbb)
                have Q9 := Lib.hid (Bk.new w9 42 p.cs)
                obtain ⟨G3, hG3⟩ : ∃ G3, G3 = w9.heap.size := ⟨_, rfl⟩
                rw [← hG3] at Q9
                have NEQ := fun w => page_neq p p w
                rw [pgB_self] at NEQ
                clear hb hbb CG J7 B7 K7 P7 x1
                dsimp only
                as_aux_lemma =>
                  go_upto_region 15 with (refine store_page_new rfl _ _ rfl p rfl rfl ?_; rw [← hG3]; clear hG3; generalize w9.alloc (.cells p.cs 42) = w10 at *)
                  go_wp2_with (first | (refine load_page rfl _ rfl G2 p rfl P9.out ?_) | (refine load_page rfl _ rfl G3 p rfl Q9.out ?_))
                  go_roundw
                  case rel => exact ⟨j + 1, m, _, _, _, by have := HLT.out; omega, by have := MJ.out; omega, by go_num, J9.out, B9.out⟩
                  case measure => have := HLT.out; simp [intOf]; omega
          · have hjn : j = u.length := by omega
            subst hjn
            clear hlt hj
            as_aux_lemma =>
              go_wp2_with fail
              refine (stnew_none wr).mono ?_
              rintro e w6 ⟨g5, b6, rfl, hs, hb⟩
              have SG := Lib.hid hs
              have B6 := Lib.hid (below_then B5.out hb B5.out.size)
              have CG := Lib.hid (stget_none hs)
              clear hs hb
              go_wp2_with fail
              refine CG.out.mono ?_
              rintro e w7 ⟨rfl, hb⟩
              have B7 := Lib.hid ((below_then B6.out hb B6.out.size).alloc (by have := B6.out.size; have := hb.size; omega) (.cells Pg.zero.cs 42))
              clear hb CG
              dsimp only
              go_wp2_with (refine store_page_new rfl _ _ rfl Pg.zero rfl rfl ?_)
              go_ret
              exact ⟨rfl, B7.out⟩
end Go.Proofs.Ythapmkgcaghadaa
