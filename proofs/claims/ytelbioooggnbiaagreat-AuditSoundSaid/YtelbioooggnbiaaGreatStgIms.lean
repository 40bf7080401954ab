/- A stage's Images. -/
import Derived.Test.YtelbioooggnbiaaGreatStgNew
import Derived.Test.YtelbioooggnbiaaGreatStgPure
import Derived.Test.YtelbioooggnbiaaGreatApp1
import Derived.Test.YtelbioooggnbiaaGreatShelf
import Derived.Test.YtelbioooggnbiaaGreatOwn
import Derived.StillTailTactics
import Derived.Great.BuildSlice
set_option linter.unusedVariables false
set_option linter.unusedSimpArgs false
namespace Go.Proofs.YtelbioooggnbiaaGreat
open Go.RowKit Go.Maps

/-- A row of images of the call's own. -/
def IOwn (w : World) (base : Nat) (v : Value) (l : List Im) : Prop := w.ownsRow base 65 17 v l.length (flatIm l)
theorem flatIm_app (l : List Im) (i : Im) : flatIm (l ++ [i]) = flatIm l ++ i.cs.toList := by unfold flatIm; simp
theorem Tryz.info65 : (Tryz.prog.info? 65).map (fun i => (i.zero, i.size, i.bytes)) = some (some (.agg Im.zero.cs), 17, 184) := by kernel_rfl
theorem Tryz.info3 : (Tryz.prog.info? 3).map (fun i => (i.zero, i.size, i.bytes)) = some (some (.int .i64 0), 1, 8) := by kernel_rfl
theorem build_im {ops : Array Oper} {rest : List Oper} {o : Oper} {a : Act} {w : World} {Q : Exit → Act → World → Prop} (hg : o.guard = none) (x y : Operand) (ho : o.op = .build 65 #[(0, x), (1, y)]) (i : Im)
    (hx : a.eval x = .int .i64 i.id) (hy : a.eval y = .agg i.p.cs) (h : wpList Tryz.prog ops Q rest (a.put o.dst (.agg i.cs)) w) : wpList Tryz.prog ops Q (o :: rest) a w := by
  refine wpList_plain hg fun K' hK' => ?_
  have hb : (Instr.build 65 #[(0, .int .i64 i.id), (1, .agg i.p.cs)]).run Tryz.prog w = .ok (.agg i.cs) w := by kernel_rfl
  unfold Oper.wp execOp
  simp only [ho, Sem.run_bind, Sem.run_pure, Result.andThen_ok, List.map_toArray, List.map_cons, List.map_nil, hx, hy, hb]
  exact hK' _ _ h
theorem slice1_im {ops : Array Oper} {rest : List Oper} {o : Oper} {a : Act} {w : World} {Q : Exit → Act → World → Prop} (hg : o.guard = none) (x : Operand) (ho : o.op = .buildSlice 28 1 #[(0, x)]) (i : Im)
    (hx : a.eval x = .agg i.cs) (h : wpList Tryz.prog ops Q rest (a.put o.dst (.slice (some ⟨w.heap.size, 0, none⟩) 1 1)) (w.alloc (.cells i.cs 65))) : wpList Tryz.prog ops Q (o :: rest) a w := by
  obtain ⟨i0, hi0, hz0, hz1, hz2⟩ := info_parts Tryz.info65
  refine wpList_buildSlice hg 28 65 1 #[(0, x)] ho i.cs i0 _ Tryz.underlying28 hi0 hz0 (by rw [hz1]; decide) (by rw [hz1]; decide) ?_ h
  rw [hz1]
  simp only [List.map_toArray, List.map_cons, List.map_nil, hx]
  kernel_rfl
theorem still_look1 {P : Program} {w : World} {ops : Array Oper} {rest : List Oper} {o : Oper} {a : Act} {Q : Act → Prop} (hg : o.guard = none) (m x : Operand) (t : TypeId) (hop : o.op = Op.lookup t m x false) (k e : TypeId) (K : Keyed P k) (ht : P.underlying t = some (.map k e)) {z : Value} (hz : (zeroValue e).run P w = .ok z w) (b n : Nat) (f : Lit → Option Value)
    (hm : a.eval m = .map (some b)) (hown : Mp w P k b n f) (key : Value) (kl : Lit) (hx : a.eval x = key) (hkey : keyOf P k key = some kl)
    (h : wpStill P ops w Q rest (a.put o.dst ((f kl).getD z))) : wpStill P ops w Q (o :: rest) a := by
  refine wpStill_step fun K' hK' => ?_
  obtain ⟨-, hrun⟩ := hown.look K ht hz hkey
  have hw : Region.wanted o (yielded ops a.tmps) = true := by simp [Region.wanted, hg]
  rw [if_pos hw]
  unfold Oper.still execOp
  simp only [hop, hm, hx, hrun, Sem.run_bind, Sem.run_pure, Result.andThen_ok]
  exact ⟨rfl, hK' _ h⟩
theorem sort_own {w : World} {base : Nat} {v : Value} {ss : List Int} (h : w.ownsRow base 3 1 v ss.length (ss.map (Value.int .i64))) (hn : ss.length ≤ 1024) :
    Calls Tryz.prog 20 #[v] w fun e w' => e = .returned (.tuple #[]) ∧ w'.ownsRow base 3 1 v ss.length ((ss.mergeSort fun x y => decide (x ≤ y)).map (Value.int .i64)) ∧ w.grownBy w' v.ownBlock := by
  have hl : (ss.mergeSort fun x y => decide (x ≤ y)).length = ss.length := List.length_mergeSort ss
  rcases h.2 with ⟨rfl, h0⟩ | ⟨g, cap, cur, rfl, hg, hh, h1, h2, h3, h4⟩
  · refine (Tryz.slices_Sort_int_none none 0 w).mono ?_
    have hs : ss = [] := List.eq_nil_of_length_eq_zero h0
    subst hs
    rintro e w' ⟨rfl, rfl⟩
    exact ⟨rfl, by simpa using World.ownsRow_nil _ _ _ _, ⟨rfl, rfl, rfl, Nat.le_refl _, fun _ _ _ => rfl⟩⟩
  · have hlt : g < w.heap.size := (Array.getElem?_eq_some_iff.1 hh).1
    rw [Nat.mul_one] at h4
    refine (Tryz.slices_Sort_int g 0 cap ss w (holds_of_block_i hh (by exact h4)) hlt (by omega)).mono ?_
    rintro e w' ⟨rfl, n, os, rfl⟩
    exact ⟨rfl, ownsRow_sorted_i hl hg hh h1 h2 (by omega), grownBy_sorted_i _⟩
def ImsPost (w : World) (src : Int → Pg × Int) (l : List Im) (e : Ending) (w' : World) : Prop :=
  (errL src l ≠ 0 ∧ e = .returned (.tuple #[.slice none 0 0, .int .i64 (errL src l)]) ∧ Below w.heap.size w w') ∨
  (errL src l = 0 ∧ ∃ v, e = .returned (.tuple #[v, .int .i64 0]) ∧ IOwn w' w.heap.size v (outL src l) ∧ Below w.heap.size w w')
set_option maxRecDepth 100000 in
set_option maxHeartbeats 4000000 in
theorem images_any {w : World} {B g b m : Nat} {sv : Value} {l : List Im} (h : Sg w B g b m sv (look l)) (hr : Rising l) (hid : ∀ i ∈ l, 0 ≤ i.id ∧ i.id < 1024) (src : Int → Pg × Int)
    (hs : ∀ (w' : World) (id : Int), 0 ≤ id → id < 1024 → Below w.heap.size w w' → Calls Tryz.prog 21 #[.pointer (some ⟨g, 0, none⟩), .int .i64 id] w' (PgPost (src id) w')) :
    Calls Tryz.prog 7 #[.pointer (some ⟨g, 0, none⟩)] w (ImsPost w src l) := by
  have hlen : (l.length : Int) ≤ 1024 - 0 := rising_len l 0 hr hid (by omega)
  have K := int_keyed (P := Tryz.prog) Tryz.underlying3
  obtain ⟨i0, hi, hz0, hz1, hz2⟩ := info_parts Tryz.info3
  obtain ⟨j0, hji, hy0, hy1, hy2⟩ := info_parts Tryz.info65
  have H := Lib.hid h; have CS := Lib.hid hs; have RI := Lib.hid hr; have HI := Lib.hid hid
  have LEN := Lib.hid (show l.length ≤ 1024 by omega)
  have c1 : w.cell? ⟨g, 1, none⟩ = some (.map (some b)) := h.box.cell 1
  clear h hs hr hid hlen
  go_enter Tryz.func7, Tryz.ntmps7
  obtain ⟨R, hR⟩ : ∃ R, R = w.heap.size := ⟨_, rfl⟩
  go_wp2_with (first
    | (at_range; refine wpList_mp_range _ rfl _ 60 rfl 3 38 K Tryz.underlying60 b m (keyed (look l)) rfl H.out.mp ?_; rw [← hR]; intro w0 left0 cnt0 hl0 hr0 hg0 hs0)
    | fail)
  have HR := Lib.hid hR
  have BM := Lib.hid (show b < R by rw [hR]; exact H.out.mp.lt)
  have G0 := Lib.hid (show Below w.heap.size w w0 from bl_grow (Below.refl _ _) hg0 (fun j hj => by cases hj) (Nat.le_refl _))
  have S0 := Lib.hid (show w0.heap.size = R + 1 by rw [hs0, hR])
  have M0 := Lib.hid hr0
  have C0 := Lib.hid (Coll.start (f := look l) hl0)
  have B0 := Lib.hid H.out.bb
  clear hl0 hr0 hg0 hs0 c1 hR
  go_frame
  go_loopw [4] (fun x wr => ∃ (ss : List Int) (left : Lit → Bool) (cnt : Nat), MpR wr Tryz.prog 3 b R m (keyed (look l)) left cnt ∧ Coll (look l) left ss ∧ wr.ownsRow (R + 1) 3 1 x ss.length (ss.map (Value.int .i64)) ∧ Below w.heap.size w wr ∧ R + 1 ≤ wr.heap.size)
    (fun _ wr => wr.rangeLeft b R)
  case atStart => exact ⟨[], left0, cnt0, M0.out, C0.out, World.ownsRow_nil _ _ _ _, G0.out, Nat.le_of_eq S0.out.symm⟩
  case round =>
    obtain ⟨ss, left, cnt, hrg, hco, hO, hb, hsz⟩ := hrel
    obtain ⟨xa, xc, hxe⟩ := ow_slice hO
    subst hxe
    have RG := Lib.hid hrg; have CO := Lib.hid hco; have O0 := Lib.hid hO; have B1 := Lib.hid hb; have SZ := Lib.hid hsz
    have LE := Lib.hid hco.len
    clear hrg hco hO hb hsz M0 C0 G0 S0
    go_wp2_with (first
      | (at_next; refine wpList_mp_next _ rfl _ rfl 3 K Tryz.underlying3 b R m (keyed (look l)) left cnt rfl RG.out ?_ ?_)
      | fail)
    · intro _ hl0
      have SO := Lib.hid (CO.out.done RI.out hl0)
      have MM := Lib.hid RG.out.mp
      clear hl0 RG CO
      as_aux_lemma =>
        go_wp2_with fail
        refine (sort_own O0.out (by have := LE.out; have := LEN.out; omega)).mono ?_
        rintro e w2 ⟨rfl, hO, hg⟩
        rw [SO.out] at hO
        have hll : (ids l).length = l.length := List.length_map _
        have hsl : ss.length = l.length := by have := congrArg List.length SO.out; rw [List.length_mergeSort, hll] at this; exact this
        have B2 := Lib.hid (bl_grow B1.out hg (fun j hj => by have := (ow_blk O0.out hj).1; have := HR.out; omega) (by have := B1.out.size; omega))
        have H2 := Lib.hid (show Sg w2 B g b m sv (look l) from ⟨H.out.box.kept B2.out, MM.out.grown hg (fun e => by have := (ow_blk O0.out e.symm).1; have := BM.out; omega), H.out.bg, H.out.bb⟩)
        rw [hsl] at hO ⊢
        have O2 := Lib.hid hO
        clear hO hg SO MM O0 B1 H hll hsl LE
        as_aux_lemma =>
          go_wp2_with fail
          go_loopw [6, 30] (fun x i wr => ∃ j : Nat, j ≤ l.length ∧ i = .int .i64 j ∧ IOwn wr w2.heap.size x (outL src (l.take j)) ∧ (∀ k ∈ l.take j, (src k.id).2 = 0) ∧ Below w2.heap.size w2 wr ∧ Below w.heap.size w wr) (fun _ i _ => l.length - (RowKit.intOf i).toNat)
          case atStart => exact ⟨0, Nat.zero_le _, rfl, World.ownsRow_nil _ _ _ _, by simp, Below.refl _ _, B2.out⟩
          case round =>
            obtain ⟨j, hj, rfl, hO, hz, hb, hB⟩ := hrel
            obtain ⟨ya, yc, hye⟩ := ow_slice hO
            subst hye
            have O3 := Lib.hid hO; have Z := Lib.hid hz; have W2 := Lib.hid hb; have W0 := Lib.hid hB
            clear hO hz hb hB
            by_cases hlt : j < l.length
            · obtain ⟨m1, hm⟩ : ∃ m1, l[j]? = some m1 := ⟨_, List.getElem?_eq_getElem hlt⟩
              have HLT := Lib.hid hlt
              have hjb : j < 1024 := by have := LEN.out; omega
              obtain ⟨gi, ci, e1, _, hgi⟩ := ow_form O2.out (by omega)
              obtain ⟨rfl, rfl⟩ : xa = some ⟨gi, 0, none⟩ ∧ xc = ci := by simpa using e1
              have q0 : wr.cell? ⟨gi, j, none⟩ = some (.int .i64 m1.id) := by
                rw [W2.out.cell (p := ⟨gi, j, none⟩) hgi]
                have := O2.out.cells (g := gi) rfl j (.int .i64 m1.id) (by unfold ids; rw [List.getElem?_map, List.getElem?_map, hm]; rfl)
                rw [Addr.add_lit, Nat.zero_add] at this
                exact this
              have HM := Lib.hid hm
              have MI := Lib.hid (HI.out m1 (List.mem_of_getElem? hm))
              have LK := Lib.hid (look_mem RI.out (List.mem_of_getElem? hm))
              have TK := Lib.hid (show l.take (j + 1) = l.take j ++ [m1] by rw [List.take_add_one, hm]; rfl)
              clear e1 hgi hm
              go_wp2_with fail
              refine (CS.out wr m1.id MI.out.1 MI.out.2 W0.out).mono ?_
              rintro e w4 ⟨rfl, hb4⟩
              obtain ⟨r, hr⟩ : ∃ r, r = src m1.id := ⟨_, rfl⟩
              rw [← hr]
              have SR := Lib.hid hr
              obtain ⟨p, er⟩ := r
              have W24 := Lib.hid ((below_then W2.out hb4 W2.out.size).alloc (Nat.le_trans W2.out.size hb4.size) (.cells p.cs 38))
              have W04 := Lib.hid ((below_then W0.out hb4 W0.out.size).alloc (Nat.le_trans W0.out.size hb4.size) (.cells p.cs 38))
              have O4 := Lib.hid ((ow_kept O3.out hb4).alloc (.cells p.cs 38))
              have K4 := Lib.hid (Bk.new w4 38 p.cs)
              obtain ⟨Q, hQ⟩ : ∃ Q, Q = w4.heap.size := ⟨_, rfl⟩
              rw [← hQ] at K4
              have HQ := Lib.hid hQ
              dsimp only
              clear hr hb4 q0 O3
              by_cases he : er = 0
              · subst he
                have hn : ((0 : Int) != 0) = false := rfl
                go_upto_region 16 with (refine store_page_new rfl _ _ rfl p rfl rfl ?_; rw [← hQ]; clear hQ; generalize w4.alloc (.cells p.cs 38) = w5 at *)
                have ZZ := Lib.hid (show ∀ k ∈ l.take (j + 1), (src k.id).2 = 0 by
                  rw [TK.out]
                  intro k hk
                  rcases List.mem_append.1 hk with hk | hk
                  · exact Z.out k hk
                  · simp at hk; rw [hk, ← SR.out])
                have H5 := Lib.hid (H2.out.kept W24.out)
                have c1 : w5.drew.cell? ⟨g, 1, none⟩ = some (.map (some b)) := H5.out.box.cell 1
                have KY := keyOf_int_mk (P := Tryz.prog) Tryz.underlying3 (lit64 (id := m1.id) (by have := MI.out; omega) (by have := MI.out; omega))
                have hk : keyed (look l) (.int .i64 m1.id) = some (.agg m1.p.cs) := by show (look l m1.id).map (fun p => Value.agg p.cs) = _; rw [LK.out]; rfl
                have NE := fun w => page_neq p m1.p w
                refine wp_region_still_tail 7 (by kernel_rfl) (by kernel_rfl) ?_
                simp only [List.take_succ_cons, List.take_zero, List.drop_succ_cons, List.drop_zero]
                refine still_page rfl _ rfl Q p rfl K4.out.drew ?_
                still_step
                still_step
                still_step
                still_step
                still_step
                refine still_look1 rfl _ _ 60 rfl 3 38 K Tryz.underlying60 (zeroV _) b m (keyed (look l)) rfl H5.out.mp.drew _ _ rfl KY ?_
                rw [hk]
                simp only [Option.getD_some]
                refine wpStill_nil ?_
                change wpList _ _ _ _ _ w5.drew
                by_cases hB : pgB p m1.p = true
                · rw [hB] at NE
                  have OT := Lib.hid (show outL src (l.take (j + 1)) = outL src (l.take j) by
                    rw [TK.out]; unfold outL; rw [List.filter_append]
                    have : (!(pgB (src m1.id).1 m1.p)) = false := by rw [← SR.out]; simp [hB]
                    simp [this])
                  have O5 := Lib.hid (show IOwn w5.drew w2.heap.size (.slice ya (outL src (l.take j)).length yc) (outL src (l.take (j + 1))) by rw [OT.out]; exact O4.out)
                  have W25 := Lib.hid (show Below w2.heap.size w2 w5.drew from W24.out.drew)
                  have W05 := Lib.hid (show Below w.heap.size w w5.drew from W04.out.drew)
                  clear hB OT
                  go_wp2
                  go_roundw
                  case rel => exact ⟨j + 1, by have := HLT.out; omega, by go_num, O5.out, ZZ.out, W25.out, W05.out⟩
                  case measure => have := HLT.out; simp [RowKit.intOf]; omega
                · have hB : pgB p m1.p = false := by simpa using hB
                  rw [hB] at NE
                  have OT := Lib.hid (show outL src (l.take (j + 1)) = outL src (l.take j) ++ [m1] by
                    rw [TK.out]; unfold outL; rw [List.filter_append]
                    have : (!(pgB (src m1.id).1 m1.p)) = true := by rw [← SR.out]; simp [hB]
                    simp [this])
                  obtain ⟨w6, hw6⟩ : ∃ w6, w6 = w5.drew := ⟨_, rfl⟩
                  have O5 := Lib.hid (show IOwn w6 w2.heap.size (.slice ya (outL src (l.take j)).length yc) (outL src (l.take j)) by rw [hw6]; exact O4.out)
                  have W25 := Lib.hid (show Below w2.heap.size w2 w6 by rw [hw6]; exact W24.out.drew)
                  have W05 := Lib.hid (show Below w.heap.size w w6 by rw [hw6]; exact W04.out.drew)
                  have H6 := Lib.hid (show Mp w6 Tryz.prog 3 b m (keyed (look l)) by rw [hw6]; exact H5.out.mp.drew)
                  have c2 : w6.cell? ⟨g, 1, none⟩ = some (.map (some b)) := by rw [hw6]; exact c1
                  have O6 := Lib.hid (show (w6.alloc (.cells m1.cs 65)).ownsRow w2.heap.size 65 17 (.slice ya (outL src (l.take j)).length yc) (outL src (l.take j)).length (flatIm (outL src (l.take j))) from World.ownsRow.alloc O5.out _)
                  have LO := Lib.hid (show (outL src (l.take j)).length < 1024 by
                    have h1 : (outL src (l.take j)).length ≤ (l.take j).length := List.length_filter_le _ _
                    rw [List.length_take] at h1
                    have := LEN.out
                    have := HLT.out
                    omega)
                  rw [← hw6]
                  clear hB hw6 c1 O4 W24 W04 H5 K4
                  generalize hl5 : (outL src (l.take j)).length = n5 at *
                  go_wp2_with (first
                    | (at_lookup; refine wpList_mp_look1 _ rfl _ _ 60 rfl 3 38 K Tryz.underlying60 (zeroV _) b m (keyed (look l)) rfl H6.out _ _ rfl KY ?_; rw [hk]; simp only [Option.getD_some])
                    | (refine build_im rfl _ _ rfl m1 rfl rfl ?_)
                    | (refine slice1_im rfl _ rfl m1 rfl ?_)
                    | (at_builtin; refine wpList_append_one _ rfl _ _ 28 rfl w2.heap.size 65 j0 (.agg Im.zero.cs) 17 184 Tryz.underlying28 hji hy0 hy1 hy2 rfl (.slice ya n5 yc) n5 (flatIm (outL src (l.take j))) rfl O6.out ⟨w6.heap.size, 0, none⟩ 1 m1.cs.toList rfl rfl ?qc2 ?qc3 ?qc4 (by omega) ?qc5 ?qc6 ?_))
                  case qc2 =>
                    intro q x hx
                    rw [Addr.add_lit, Nat.zero_add]
                    refine Eq.trans ((Bk.new w6 65 m1.cs).cell q) ?_
                    simpa using hx
                  case qc3 => simp [Im.cs, Pg.cs, Value.oneCell']
                  case qc4 => have := LO.out; unfold maxLen; omega
                  case qc5 => have := LO.out; omega
                  case qc6 => have := W25.out.size; simp; omega
                  intro v7 w7 hown hgrow
                  obtain ⟨za, zc, hze⟩ := ow_slice hown
                  subst hze
                  have O7 := Lib.hid (show IOwn w7 w2.heap.size (.slice za (n5 + 1) zc) (outL src (l.take (j + 1))) by
                    rw [OT.out]
                    unfold IOwn
                    rw [List.length_append, flatIm_app, hl5]
                    exact hown)
                  have W27 := Lib.hid (bl_grow (W25.out.alloc W25.out.size (.cells m1.cs 65)) hgrow (fun j hj => (ow_blk O6.out hj).1) (by have := W25.out.size; simp; omega))
                  have W07 := Lib.hid (bl_grow (W05.out.alloc W05.out.size (.cells m1.cs 65)) hgrow (fun j hj => Nat.le_trans B2.out.size (ow_blk O6.out hj).1) (by have := W05.out.size; simp; omega))
                  clear hown hgrow O6 W25 W05 c2 H6
                  go_wp2
                  go_roundw
                  case rel => exact ⟨j + 1, by have := HLT.out; omega, by go_num, O7.out, ZZ.out, W27.out, W07.out⟩
                  case measure => have := HLT.out; simp [RowKit.intOf]; omega
              · have hn : (er != 0) = true := by simp [he]
                have ER := Lib.hid (show errL src l = er by rw [errL_at HM.out Z.out (by rw [← SR.out]; exact he), ← SR.out])
                have EN := Lib.hid he
                clear he
                go_wp2_with (refine store_page_new rfl _ _ rfl p rfl rfl ?_)
                refine bodyPost_ret (v := .tuple #[.slice none 0 0, .int .i64 er]) (by simp [results, Tryz.results7, go_sem]) rfl ?_
                exact .inl ⟨by rw [ER.out]; exact EN.out, by rw [ER.out], W04.out⟩
            · have hjn : j = l.length := by omega
              subst hjn
              have E0 := Lib.hid (errL_none (src := src) (l := l) (by have := Z.out; rwa [List.take_length] at this))
              have O5 := Lib.hid (show IOwn wr w2.heap.size (.slice ya (outL src (l.take l.length)).length yc) (outL src l) by have := O3.out; rw [List.take_length] at this ⊢; exact this)
              clear hlt hj
              go_wp2
              refine bodyPost_ret (v := .tuple #[.slice ya (outL src (l.take l.length)).length yc, .int .i64 0]) (by simp [results, Tryz.results7, go_sem]) rfl ?_
              exact .inr ⟨E0.out, _, rfl, ow_mono O5.out B2.out.size, W0.out⟩
    · intro x c w1 cnt1 hwx hlx hfx hrg1 hlt hg1 hs1 hen
      have LT := Lib.hid hlt; have HX := Lib.hid (hrg1.left_eq); have HY := Lib.hid (RG.out.left_eq)
      have CO1 := Lib.hid (CO.out.step hlx hfx)
      have O1 := Lib.hid ((ow_grown O0.out hg1 (fun j hj => by cases hj; omega)).alloc (.cells #[.int .i64 x] 3))
      have B2 := Lib.hid ((bl_grow B1.out hg1 (fun j hj => by cases hj; have := HR.out; omega) B1.out.size).alloc (by rw [hs1]; exact B1.out.size) (.cells #[.int .i64 x] 3))
      have RG1 := Lib.hid (hrg1.alloc (.cells #[.int .i64 x] 3))
      have SZ1 := Lib.hid (show R + 1 ≤ w1.heap.size by rw [hs1]; exact SZ.out)
      have L1 := Lib.hid (show ss.length < 1024 by have h1 := CO1.out.len; have := LEN.out; rw [List.length_append, List.length_singleton] at h1; omega)
      clear hlx hfx hrg1 hlt hg1 hs1 RG CO O0 B1 LE SZ
      as_aux_lemma =>
        go_wp2_with (first
          | (at_builtin; refine wpList_append_one _ rfl _ _ 45 rfl (R + 1) 3 i0 (.int .i64 0) 1 8 Tryz.underlying45 hi hz0 hz1 hz2 rfl (.slice xa ss.length xc) ss.length (ss.map (Value.int .i64)) rfl O1.out ⟨w1.heap.size, 0, none⟩ 1 [.int .i64 x] rfl rfl ?qc2 ?qc3 ?qc4 (by omega) ?qc5 ?qc6 ?_)
          | fail)
        case qc2 =>
          intro q y hy
          rw [Addr.add_lit, Nat.zero_add]
          refine Eq.trans ((Bk.new w1 3 #[.int .i64 x]).cell q) ?_
          simpa using hy
        case qc3 => simp [Value.oneCell']
        case qc4 => have := L1.out; unfold maxLen; omega
        case qc5 => have := L1.out; omega
        case qc6 => have := SZ1.out; simp; omega
        intro v2 w2 hown hgrow
        obtain ⟨ya, yc, hye⟩ := ow_slice hown
        subst hye
        have O2 := Lib.hid (show w2.ownsRow (R + 1) 3 1 (.slice ya (ss.length + 1) yc) (ss ++ [x]).length ((ss ++ [x]).map (Value.int .i64)) by rw [List.length_append, List.map_append]; exact hown)
        have RG2 := Lib.hid (RG1.out.grown hgrow (fun e => by have := (ow_blk O1.out e.symm).1; have := BM.out; omega) (fun e => by have := (ow_blk O1.out e.symm).1; omega))
        have B3 := Lib.hid (bl_grow B2.out hgrow (fun j hj => by have := (ow_blk O1.out hj).1; have := HR.out; omega) B2.out.size)
        have SZ2 := Lib.hid (show R + 1 ≤ w2.heap.size by have := hgrow.size; have := SZ1.out; simp at *; omega)
        clear hown hgrow O1 B2 RG1 SZ1
        go_wp2
        go_roundw
        case rel => exact ⟨ss ++ [x], _, cnt1, RG2.out, CO1.out, O2.out, B3.out, SZ2.out⟩
        case measure => rw [RG2.out.left_eq, HY.out]; exact LT.out
end Go.Proofs.YtelbioooggnbiaaGreat
