/- The reference's Same, Images, Set. -/
import Derived.Test.YthapmkgcaghadaaStgRef
import Derived.Deep.CutRange
import Derived.Deep.DeepCutAuto
set_option linter.unusedVariables false
set_option linter.unusedSimpArgs false
namespace Go.Proofs.Ythapmkgcaghadaa
open Go.RowKit Go.Maps Go.BigFrame

theorem page_equal9 (p q : Pg) (w : World) : (Op.equalIn 9999 42 (.agg p.cs) (.agg q.cs)).run Try.prog w = .ok (pgB p q) w := by
  have hc := fun w => cells_eq 9995 p.c q.c w
  unfold cs6 at hc
  unfold Pg.cs
  go_simp
  unfold pgB
  by_cases h1 : p.k = q.k <;> by_cases h2 : p.l = q.l <;> by_cases h3 : p.s = q.s <;> by_cases h4 : p.n = q.n <;> cases cesB p.c q.c <;> simp [h1, h2, h3, h4]
def imB (a b : Im) : Bool := a.id == b.id && pgB a.p b.p
theorem image_equal (a b : Im) (w : World) : (Op.equalIn 10000 59 (.agg a.cs) (.agg b.cs)).run Try.prog w = .ok (imB a b) w := by
  have hp := fun w => page_equal9 a.p b.p w
  unfold Im.cs
  unfold Pg.cs at hp ⊢
  go_simp
  unfold imB
  by_cases h1 : a.id = b.id <;> cases pgB a.p b.p <;> simp [h1]
theorem image_neq (a b : Im) (w : World) : (binOp .neq 59 (.agg a.cs) (.agg b.cs)).run Try.prog w = .ok (.bool (!(imB a b))) w := by
  rw [run_neq_struct, image_equal]; rfl
theorem imB_self (a : Im) : imB a a = true := by unfold imB; rw [pgB_self]; simp
theorem Try.eqGuardType59 : Try.prog.eqGuardType Try.prog.depth 59 = false := by kernel_rfl
theorem ld_im {g off : Nat} {i : Im} {w : World} (h : w.rangeAt g off i.cs.toList) : (loadVar 59 ⟨g, off, none⟩).run Try.prog w = .ok (.agg i.cs) w := by
  have := run_loadVar_mid w g off 59 i.cs.toList _ h Try.underlying59 rfl (by rw [im_len]; kernel_rfl)
  rw [Array.toArray_toList] at this
  exact this
set_option maxRecDepth 100000 in
set_option maxHeartbeats 1000000 in
theorem same_any {w : World} {B1 B2 : Nat} {va vb : Value} {l : List Im} (ha : IOwn w B1 va l) (hb : IOwn w B2 vb l) (hn : l.length ≤ 1024) :
    Calls Try.prog 16 #[va, vb] w fun e w' => e = .returned (.bool true) ∧ Below w.heap.size w w' := by
  have A := Lib.hid ha; have B := Lib.hid hb; have LN := Lib.hid hn
  obtain ⟨aa, ac, rfl⟩ := ow_slice ha
  obtain ⟨ba, bc, rfl⟩ := ow_slice hb
  clear ha hb
  go_enter Try.func16, Try.ntmps16
  go_wp2_with fail
  go_loopw [5] (fun i wr => ∃ j : Nat, j ≤ l.length ∧ i = .int .i64 j ∧ Below w.heap.size w wr) (fun i _ => l.length - (intOf i).toNat)
  case atStart => exact ⟨0, Nat.zero_le _, rfl, Below.refl _ _⟩
  case round =>
    obtain ⟨j, hj, rfl, hb⟩ := hrel
    have HB := Lib.hid hb
    clear hb
    by_cases hlt : j < l.length
    · have HLT := Lib.hid hlt
      have hjb : j < 1024 := by have := LN.out; omega
      obtain ⟨m, hm⟩ : ∃ m, l[j]? = some m := ⟨_, List.getElem?_eq_getElem hlt⟩
      have form : ∀ {a c Bx}, IOwn w Bx (.slice a l.length c) l → ∃ g, a = some ⟨g, 0, none⟩ ∧ wr.rangeAt g (j * 17) m.cs.toList := by
        intro a c Bx h
        rcases h.irow with ⟨h0, h1⟩ | ⟨g', c', e2, hh, _⟩
        · rw [h1] at hlt; exact absurd hlt (Nat.not_lt_zero _)
        · obtain ⟨rfl, rfl⟩ : a = some ⟨g', 0, none⟩ ∧ c = c' := by simpa using e2
          exact ⟨g', rfl, (hh.kept HB.out).cells j m hm⟩
      obtain ⟨ga, rfl, hga⟩ := form A.out
      obtain ⟨gb, rfl, hgb⟩ := form B.out
      have XA := Lib.hid hga; have XB := Lib.hid hgb
      have NE := Lib.hid (fun w => image_neq m m w)
      rw [imB_self] at NE
      have hji : (j : Int) < (l.length : Int) := by omega
      clear form hga hgb hm
      go_upto_region 6 with fail
      refine wp_region_kept (by kernel_rfl) (by kernel_rfl) ?_
      (go_big_quiet_want; go_big_quiet_op; go_big_quiet_on)
      (go_big_quiet_want; go_big_quiet_op; go_big_quiet_on)
      (go_big_quiet_want; go_big_quiet_op; go_big_quiet_on)
      (go_big_quiet_want; refine q_load 59 _ rfl ⟨ga, j * 17, none⟩ (.agg m.cs) rfl (fun x => ld_im (x.range XA.out)) ?_; simp only [Act.put, List.setIfInBounds_toArray, List.set_cons_succ, List.set_cons_zero]; go_big_quiet_on)
      (go_big_quiet_want; go_big_quiet_op; go_big_quiet_on)
      (go_big_quiet_want; go_big_quiet_op; go_big_quiet_on)
      (go_big_quiet_want; go_big_quiet_op; go_big_quiet_on)
      (go_big_quiet_want; refine q_load 59 _ rfl ⟨gb, j * 17, none⟩ (.agg m.cs) rfl (fun x => ld_im (x.range XB.out)) ?_; simp only [Act.put, List.setIfInBounds_toArray, List.set_cons_succ, List.set_cons_zero]; go_big_quiet_on)
      (go_big_quiet_want; refine q_neq 59 _ Try.eqGuardType59 _ _ rfl _ _ _ rfl rfl (fun w => NE.out w) ?_; simp only [Act.put, List.setIfInBounds_toArray, List.set_cons_succ, List.set_cons_zero]; go_big_quiet_on)
      refine wpQuiet_nil ?_
      rintro _ ⟨x, rfl⟩
      have HX := Lib.hid (HB.out.trans (x.2.mono HB.out.size))
      go_wp2_with fail
      go_roundw
      case rel => exact ⟨j + 1, by have := HLT.out; omega, by go_num, HX.out⟩
      case measure => have := HLT.out; simp [intOf]; omega
    · have hjn : j = l.length := by omega
      subst hjn
      clear hlt hj
      go_wp2
      go_ret
      exact ⟨rfl, HB.out⟩

theorem st_new (p : Pg) (w : World) : (storeCells ⟨w.heap.size, 0, none⟩ p.cs.toList 0).run Try.prog (w.alloc (.cells #[.int .i64 0, .int .i64 0, .int .i64 0, .int .i64 0, .int .i64 0, .string ⟨#[]⟩, .int .i64 0, .string ⟨#[]⟩, .int .i64 0, .string ⟨#[]⟩, .int .i64 0, .string ⟨#[]⟩, .int .i64 0, .string ⟨#[]⟩, .int .i64 0, .string ⟨#[]⟩] 42)) = .ok () (w.alloc (.cells p.cs 42)) :=
  run_storeCells_new w 42 Pg.zero.cs p.cs (by rw [show p.cs.size = 16 from rfl]; kernel_rfl) rfl (by simp [Pg.cs, Value.oneCell'])
theorem st_at {g : Nat} {w : World} (p q : Pg) (h : Bk w g 42 q.cs) : (storeCells ⟨g, 0, none⟩ p.cs.toList 0).run Try.prog w = .ok () (w.setRow g p.cs) := by
  have := run_storeCells_at Try.prog g 0 42 p.cs.toList 0 q.cs w h (by rw [pg_len]; show 16 ≤ 16; omega) (fun v hv => by
    have : p.cs.toList.all (fun x => x.oneCell') = true := by simp [Pg.cs, Value.oneCell']
    exact List.all_eq_true.1 this v hv)
  rw [this]
  have e : (q.cs.toList.take (0 + 0) ++ p.cs.toList ++ q.cs.toList.drop (0 + 0 + p.cs.toList.length)).toArray = p.cs := by
    rw [pg_len]; rfl
  rw [e]
/-- What the reference's Images gives. -/
theorem RT.irow {w : World} {B k r t : Nat} {ps : List Pg} {va : Option Addr} {vc : Nat} {l : List Im} (h : RT w B k r ps t (.slice va l.length vc) l) (hn : 0 < l.length) : ∃ g, va = some ⟨g, 0, none⟩ ∧ IRow w g l := by
  rcases h.own.irow with ⟨h0, h1⟩ | ⟨g', c', e2, hh, _⟩
  · rw [h1] at hn; exact absurd hn (Nat.not_lt_zero _)
  · obtain ⟨rfl, rfl⟩ : va = some ⟨g', 0, none⟩ ∧ vc = c' := by simpa using e2
    exact ⟨g', rfl, hh⟩
set_option maxRecDepth 100000 in
set_option maxHeartbeats 2000000 in
theorem rims_any {w : World} {B k r t : Nat} {ps : List Pg} {v : Value} {l : List Im} (h : RT w B k r ps t v l) :
    Calls Try.prog 15 #[.pointer (some ⟨t, 0, none⟩)] w (ImsPost w (getPg ps) l) := by
  obtain ⟨j0, hji0, hy0, hy1, hy2⟩ := info_parts Try.info59
  have LN := Lib.hid h.len
  have H := Lib.hid h
  obtain ⟨va, vc, rfl⟩ := ow_slice h.own
  clear h
  obtain ⟨src, hsrc⟩ : ∃ src, src = getPg ps := ⟨_, rfl⟩
  rw [← hsrc]
  have HS := Lib.hid hsrc
  clear hsrc
  go_enter Try.func15, Try.ntmps15
  go_wp2_with fail
  go_loopw [4, 5] (fun x i wr => ∃ j : Nat, j ≤ l.length ∧ i = .int .i64 j ∧ IOwn wr w.heap.size x (outL src (l.take j)) ∧ (∀ k ∈ l.take j, (src k.id).2 = 0) ∧ Below w.heap.size w wr) (fun _ i _ => l.length - (intOf i).toNat)
  case atStart => exact ⟨0, Nat.zero_le _, rfl, World.ownsRow_nil _ _ _ _, by simp, Below.refl _ _⟩
  case round =>
    obtain ⟨j, hj, rfl, hO, hz, hb⟩ := hrel
    obtain ⟨ya, yc, hye⟩ := ow_slice hO
    subst hye
    have O3 := Lib.hid hO; have Z := Lib.hid hz; have W0 := Lib.hid hb
    have H1 := Lib.hid (H.out.kept hb)
    have c0 : wr.cell? ⟨t, 0, none⟩ = some (.pointer (some ⟨k, 0, none⟩)) := H1.out.box.cell 0
    have c1 : wr.cell? ⟨t, 1, none⟩ = some (.slice va l.length vc) := H1.out.box.cell 1
    clear hO hz hb
    by_cases hlt : j < l.length
    · obtain ⟨m1, hm⟩ : ∃ m1, l[j]? = some m1 := ⟨_, List.getElem?_eq_getElem hlt⟩
      have HLT := Lib.hid hlt
      have hjb : j < 1024 := by have := LN.out; omega
      obtain ⟨g, rfl, hrow⟩ := H1.out.irow (by omega)
      have q0 : wr.cell? ⟨g, j * 17, none⟩ = some (.int .i64 m1.id) := hrow.id_cell hm
      have HM := Lib.hid hm
      have TK := Lib.hid (show l.take (j + 1) = l.take j ++ [m1] by rw [List.take_add_one, hm]; rfl)
      have CG := Lib.hid (fun (w' : World) (hb : Below wr.heap.size wr w') => rget_any (H1.out.sh.kept hb) m1.id)
      rw [← HS.out] at CG
      have hji : (j : Int) < (l.length : Int) := by omega
      clear hm hrow
      obtain ⟨pr, hpr⟩ : ∃ pr, pr = src m1.id := ⟨_, rfl⟩
      rw [← hpr] at CG
      have SR := Lib.hid hpr
      obtain ⟨p, er⟩ := pr
      clear hpr
      go_upto_region 5 with fail
      go_cut [6, 7] from 8 to 55 (fun a c w6 => ∃ G, a = .pointer (some ⟨G, 0, none⟩) ∧ c = .int .i64 er ∧ Bk w6 G 42 p.cs ∧ Below wr.heap.size wr w6)
      case first =>
        have lg := World.block_lt_of_cell? wr _ q0
        have lt := World.block_lt_of_cell? wr _ c0
        have q0a : ∀ o, (wr.alloc o).cell? ⟨g, j * 17, none⟩ = some (.int .i64 m1.id) := fun o => (((Below.refl wr.heap.size wr).alloc (Nat.le_refl _) o).cell (p := ⟨g, j * 17, none⟩) lg).trans q0
        have c0a : ∀ o, (wr.alloc o).cell? ⟨t, 0, none⟩ = some (.pointer (some ⟨k, 0, none⟩)) := fun o => (((Below.refl wr.heap.size wr).alloc (Nat.le_refl _) o).cell (p := ⟨t, 0, none⟩) lt).trans c0
        have c1a : ∀ o, (wr.alloc o).cell? ⟨t, 1, none⟩ = some (.slice (some ⟨g, 0, none⟩) l.length vc) := fun o => (((Below.refl wr.heap.size wr).alloc (Nat.le_refl _) o).cell (p := ⟨t, 1, none⟩) lt).trans c1
        clear lg lt
        have hstA := st_new p
        have hps : p.cs.size = 16 := rfl
        go_region_law? (first
          | (go_simp; go_at_call 21; refine (CG.out _ (Below.refl _ _).drew).mono ?_; rintro e w5 ⟨rfl, hb5⟩
             have KB := Lib.hid (Bk.new w5 42 p.cs)
             have BX := Lib.hid (show Below wr.heap.size wr (w5.alloc (.cells p.cs 42)) from ((Below.refl wr.heap.size wr).drew.trans hb5).alloc hb5.size _))
          | (go_simp; go_at_call 21; refine (CG.out _ ((Below.refl _ _).drew.alloc (Nat.le_refl _) _)).mono ?_; rintro e w5 ⟨rfl, hb5⟩
             have hstB := st_at p Pg.zero (show Bk w5 wr.heap.size 42 Pg.zero.cs from (Bk.new wr.drew _ _).kept hb5)
             have KB := Lib.hid (row_bk (p := p) ((Bk.new wr.drew 42 Pg.zero.cs).kept hb5))
             have BX := Lib.hid (show Below wr.heap.size wr (w5.setRow wr.heap.size p.cs) from below_row (((Below.refl wr.heap.size wr).drew.alloc (Nat.le_refl _) _).trans (hb5.mono (by simp))) (Nat.le_refl _))))
        all_goals
          go_wp2_with fail
          go_meet
          exact ⟨_, rfl, rfl, KB.out, BX.out⟩
      case rest =>
        obtain ⟨G, rfl, rfl, hk, hb6⟩ := hcut
        have K6 := Lib.hid hk
        have H6 := Lib.hid (H1.out.kept hb6)
        have O4 := Lib.hid (ow_kept O3.out hb6)
        have W4 := Lib.hid (below_then W0.out hb6 W0.out.size)
        clear hk hb6 O3 c0 c1 q0 CG H1
        have c1 : wc.cell? ⟨t, 1, none⟩ = some (.slice (some ⟨g, 0, none⟩) l.length vc) := H6.out.box.cell 1
        by_cases he : er = 0
        · subst he
          have hn : ((0 : Int) != 0) = false := rfl
          obtain ⟨g', hg', hrow⟩ := H6.out.irow (by omega)
          obtain rfl : g = g' := by simpa using hg'
          have RW := Lib.hid hrow
          have PR := Lib.hid (hrow.page_range HM.out)
          have ZZ := Lib.hid (show ∀ k ∈ l.take (j + 1), (src k.id).2 = 0 by
            rw [TK.out]
            intro k hk
            rcases List.mem_append.1 hk with hk | hk
            · exact Z.out k hk
            · simp at hk; rw [hk, ← SR.out])
          have NE := fun w => page_neq p m1.p w
          clear hg' hrow
          go_upto_region 8 with fail
          refine wp_region_still_tail 9 (by kernel_rfl) (by kernel_rfl) ?_
          simp only [List.take_succ_cons, List.take_zero, List.drop_succ_cons, List.drop_zero]
          refine still_page rfl _ rfl G p rfl K6.out.drew ?_
          still_step
          still_step
          still_step
          still_step
          still_step
          still_step
          still_step
          refine still_page_at_w _ rfl (by first | rfl | kernel_rfl) g (j * 17 + 1) m1.p rfl PR.out ?_
          refine wpStill_nil ?_
          change wpList _ _ _ _ _ wc.drew
          by_cases hB : pgB p m1.p = true
          · rw [hB] at NE
            have OT := Lib.hid (show outL src (l.take (j + 1)) = outL src (l.take j) by
              rw [TK.out]; unfold outL; rw [List.filter_append]
              have : (!(pgB (src m1.id).1 m1.p)) = false := by rw [← SR.out]; simp [hB]
              simp [this])
            have O5 := Lib.hid (show IOwn wc.drew w.heap.size (.slice ya (outL src (l.take j)).length yc) (outL src (l.take (j + 1))) by rw [OT.out]; exact O4.out)
            have W5 := Lib.hid (show Below w.heap.size w wc.drew from W4.out.drew)
            clear hB OT
            go_wp2
            go_roundw
            case rel => exact ⟨j + 1, by have := HLT.out; omega, by go_num, O5.out, ZZ.out, W5.out⟩
            case measure => have := HLT.out; simp [intOf]; omega
          · have hB : pgB p m1.p = false := by simpa using hB
            rw [hB] at NE
            have OT := Lib.hid (show outL src (l.take (j + 1)) = outL src (l.take j) ++ [m1] by
              rw [TK.out]; unfold outL; rw [List.filter_append]
              have : (!(pgB (src m1.id).1 m1.p)) = true := by rw [← SR.out]; simp [hB]
              simp [this])
            obtain ⟨w6, hw6⟩ : ∃ w6, w6 = wc.drew := ⟨_, rfl⟩
            have W5 := Lib.hid (show Below w.heap.size w w6 by rw [hw6]; exact W4.out.drew)
            have R6 := Lib.hid (show IRow w6 g l by rw [hw6]; exact ⟨RW.out.lt, RW.out.cells⟩)
            have c2 : w6.cell? ⟨t, 1, none⟩ = some (.slice (some ⟨g, 0, none⟩) l.length vc) := by rw [hw6]; exact c1
            have O6 := Lib.hid (show (w6.alloc (.cells m1.cs 59)).ownsRow w.heap.size 59 17 (.slice ya (outL src (l.take j)).length yc) (outL src (l.take j)).length (flatIm (outL src (l.take j))) by rw [hw6]; exact World.ownsRow.alloc O4.out _)
            have LO := Lib.hid (show (outL src (l.take j)).length < 1024 by
              have h1 : (outL src (l.take j)).length ≤ (l.take j).length := List.length_filter_le _ _
              rw [List.length_take] at h1
              omega)
            rw [← hw6]
            clear hB hw6 c1 O4 W4 K6 H6
            generalize hl5 : (outL src (l.take j)).length = n5 at *
            go_wp2_with (first
              | (refine load_im_at rfl _ rfl g l j m1 HM.out rfl R6.out ?_)
              | (refine slice1_im rfl _ rfl m1 rfl ?_)
              | (at_builtin; refine wpList_append_one _ rfl _ _ 35 rfl w.heap.size 59 j0 (.agg Im.zero.cs) 17 184 Try.underlying35 hji0 hy0 hy1 hy2 rfl (.slice ya n5 yc) n5 (flatIm (outL src (l.take j))) rfl O6.out ⟨w6.heap.size, 0, none⟩ 1 m1.cs.toList rfl rfl ?qc2 ?qc3 ?qc4 (by omega) ?qc5 ?qc6 ?_))
            case qc2 =>
              intro q x hx
              rw [Addr.add_lit, Nat.zero_add]
              refine Eq.trans ((Bk.new w6 59 m1.cs).cell q) ?_
              simpa using hx
            case qc3 => simp [Im.cs, Pg.cs, Value.oneCell']
            case qc4 => have := LO.out; unfold maxLen; omega
            case qc5 => have := LO.out; omega
            case qc6 => have := W5.out.size; simp; omega
            intro v7 w7 hown hgrow
            obtain ⟨za, zc, hze⟩ := ow_slice hown
            subst hze
            have O7 := Lib.hid (show IOwn w7 w.heap.size (.slice za (n5 + 1) zc) (outL src (l.take (j + 1))) by
              rw [OT.out]
              unfold IOwn
              rw [List.length_append, flatIm_app, hl5]
              exact hown)
            have W7 := Lib.hid (bl_grow (W5.out.alloc W5.out.size (.cells m1.cs 59)) hgrow (fun j hj => (ow_blk O6.out hj).1) (by have := W5.out.size; simp; omega))
            clear hown hgrow O6 W5 c2
            go_wp2
            go_roundw
            case rel => exact ⟨j + 1, by have := HLT.out; omega, by go_num, O7.out, ZZ.out, W7.out⟩
            case measure => have := HLT.out; simp [intOf]; omega
        · have hn : (er != 0) = true := by simp [he]
          have ER := Lib.hid (show errL src l = er by rw [errL_at HM.out Z.out (by rw [← SR.out]; exact he), ← SR.out])
          have EN := Lib.hid he
          clear he
          go_wp2_with fail
          refine bodyPost_ret (v := .tuple #[.slice none 0 0, .int .i64 er]) (by simp [results, Try.results15, go_sem]) rfl ?_
          exact .inl ⟨by rw [ER.out]; exact EN.out, by rw [ER.out], W4.out⟩
    · have hjn : j = l.length := by omega
      subst hjn
      have E0 := Lib.hid (errL_none (src := src) (l := l) (by have := Z.out; rwa [List.take_length] at this))
      have O5 := Lib.hid (show IOwn wr w.heap.size (.slice ya (outL src (l.take l.length)).length yc) (outL src l) by have := O3.out; rw [List.take_length] at this ⊢; exact this)
      clear hlt hj
      go_wp2
      refine bodyPost_ret (v := .tuple #[.slice ya (outL src (l.take l.length)).length yc, .int .i64 0]) (by simp [results, Try.results15, go_sem]) rfl ?_
      exact .inr ⟨E0.out, _, rfl, O5.out, W0.out⟩
end Go.Proofs.Ythapmkgcaghadaa
