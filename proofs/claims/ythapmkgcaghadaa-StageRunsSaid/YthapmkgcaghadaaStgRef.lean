/- The reference's shelf and stage: Get, Apply; the stage's Get. -/
import Derived.Test.YthapmkgcaghadaaStgLib
import Derived.Test.YthapmkgcaghadaaPgRRight
import Derived.Test.YthapmkgcaghadaaKept
import Derived.Test.YthapmkgcaghadaaTail
set_option linter.unusedVariables false
set_option linter.unusedSimpArgs false
namespace Go.Proofs.Ythapmkgcaghadaa
open Go.RowKit Go.Maps Go.BigFrame

/-- The reference's shelf. -/
structure RS (w : World) (B k r : Nat) (ps : List Pg) : Prop where
  box : Bk w k 31 #[.slice (some ⟨r, 0, none⟩) ps.length ps.length]
  row : PRow w r ps
  one : 1 ≤ ps.length
  most : ps.length ≤ 1024
  bk : B ≤ k
  br : B ≤ r
/-- The reference's stage. -/
structure RT (w : World) (B k r : Nat) (ps : List Pg) (t : Nat) (v : Value) (l : List Im) : Prop where
  sh : RS w B k r ps
  box : Bk w t 37 #[.pointer (some ⟨k, 0, none⟩), v]
  own : IOwn w B v l
  bt : B ≤ t
  up : Rising l
  ids : ∀ i ∈ l, (0 ≤ i.id ∧ i.id < 1024) ∧ i.p.ok
section
variable {w w' : World} {B k r t : Nat} {ps : List Pg} {v : Value} {l : List Im}
theorem RS.grown (h : RS w B k r ps) {row : Option Nat} (hg : w.grownBy w' row) (h1 : some k ≠ row) (h2 : some r ≠ row) : RS w' B k r ps := ⟨h.box.grown hg h1, h.row.of_block (hg.block r (Bk.lt h.row) h2), h.one, h.most, h.bk, h.br⟩
theorem RS.kept (h : RS w B k r ps) (hb : Below w.heap.size w w') : RS w' B k r ps := h.grown (only_below hb none) (by simp) (by simp)
theorem RT.kept (h : RT w B k r ps t v l) (hb : Below w.heap.size w w') : RT w' B k r ps t v l := ⟨h.sh.kept hb, h.box.kept hb, ow_kept h.own hb, h.bt, h.up, h.ids⟩
theorem RT.alloc (h : RT w B k r ps t v l) (o : Obj) : RT (w.alloc o) B k r ps t v l := h.kept ((Below.refl _ _).alloc (Nat.le_refl _) o)
theorem RT.len (h : RT w B k r ps t v l) : l.length ≤ 1024 := by have := rising_len l 0 h.up (fun i hi => (h.ids i hi).1) (by omega); omega
end
set_option maxRecDepth 100000 in
set_option maxHeartbeats 1000000 in
theorem rget_any {w : World} {B k r : Nat} {ps : List Pg} (h : RS w B k r ps) (id : Int) :
    Calls Try.prog 21 #[.pointer (some ⟨k, 0, none⟩), .int .i64 id] w (PgPost (getPg ps id) w) := by
  have H0 := Lib.hid (h.kept ((Below.refl w.heap.size w).alloc (Nat.le_refl _) (.cells Pg.zero.cs 42)))
  have Z := Lib.hid (Bk.new w 42 Pg.zero.cs)
  have B0 := Lib.hid ((Below.refl w.heap.size w).alloc (Nat.le_refl _) (.cells Pg.zero.cs 42))
  obtain ⟨res, hres⟩ : ∃ res, res = getPg ps id := ⟨_, rfl⟩
  rw [← hres]
  have HR := Lib.hid hres
  clear h hres
  go_enter Try.func21, Try.ntmps21
  go_upto_region 1 with fail
  change Code.wp _ _ _ _ (w.alloc (.cells Pg.zero.cs 42))
  generalize w.alloc (.cells Pg.zero.cs 42) = w0 at *
  obtain ⟨G, hG⟩ : ∃ G, G = w.heap.size := ⟨_, rfl⟩
  rw [← hG] at Z ⊢
  have GL := Lib.hid (show w.heap.size ≤ G from Nat.le_of_eq hG.symm)
  clear hG
  have c0 : w0.cell? ⟨k, 0, none⟩ = some (.slice (some ⟨r, 0, none⟩) ps.length ps.length) := H0.out.box.cell 0
  by_cases hh : hasId ps.length id
  · obtain ⟨j, rfl⟩ : ∃ j : Nat, id = j := ⟨id.toNat, by have := hh.1; omega⟩
    have hk : j < ps.length := by have := hh.2; omega
    obtain ⟨p, hp⟩ : ∃ p, ps[j]? = some p := ⟨_, List.getElem?_eq_getElem hk⟩
    have HR2 := Lib.hid (show res = (p, 0) by rw [HR.out, getPg_in hk, List.getD_eq_getElem?_getD, hp]; rfl)
    have hki : (j : Int) < (ps.length : Int) := by omega
    have hk2 : ¬ (ps.length : Int) ≤ (j : Int) := by omega
    clear hh
    go_wp2_with (first | (refine load_page_at rfl _ rfl r ps j p hp rfl H0.out.row ?_) | (refine store_page rfl _ _ rfl G p Pg.zero rfl rfl Z.out ?_))
    refine bodyPost_ret (page_res rfl _ _ G p.cs (row_bk Z.out) rfl rfl) rfl ?_
    exact ⟨by rw [HR2.out]; rfl, below_row B0.out GL.out⟩
  · have HR2 := Lib.hid (show res = (Pg.zero, 1) by rw [HR.out]; unfold getPg; rw [if_neg hh])
    by_cases h1 : id < 0
    · clear hh
      go_wp2_with (first | (refine build_zero_if rfl (by first | rfl | kernel_rfl) ?_) | (refine store_page rfl _ _ rfl G Pg.zero Pg.zero rfl rfl Z.out ?_))
      refine bodyPost_ret (page_res rfl _ _ G Pg.zero.cs (row_bk Z.out) rfl rfl) rfl ?_
      exact ⟨by rw [HR2.out]; rfl, below_row B0.out GL.out⟩
    · have h2 : (ps.length : Int) ≤ id := by unfold hasId at hh; omega
      clear hh
      go_wp2_with (first | (refine build_zero_if rfl (by first | rfl | kernel_rfl) ?_) | (refine store_page rfl _ _ rfl G Pg.zero Pg.zero rfl rfl Z.out ?_))
      refine bodyPost_ret (page_res rfl _ _ G Pg.zero.cs (row_bk Z.out) rfl rfl) rfl ?_
      exact ⟨by rw [HR2.out]; rfl, below_row B0.out GL.out⟩
theorem look_at {l : List Im} {j : Nat} {i : Im} {id : Int} (h : l[j]? = some i) (hp : ∀ m ∈ l.take j, m.id ≠ id) (he : i.id = id) : look l id = some i.p := by
  unfold look
  have hj : j < l.length := (List.getElem?_eq_some_iff.1 h).1
  have e : l = l.take j ++ i :: l.drop (j + 1) := by
    have h1 := (List.take_append_drop j l).symm
    rw [List.drop_eq_getElem_cons hj, (List.getElem?_eq_some_iff.1 h).2] at h1
    exact h1
  have h1 : (l.take j).find? (fun i => i.id == id) = none := List.find?_eq_none.2 fun m hm => by simp [hp m hm]
  rw [e, List.find?_append, h1, List.find?_cons]
  simp [he]
theorem look_not {l : List Im} {id : Int} (hp : ∀ m ∈ l, m.id ≠ id) : look l id = none := by
  unfold look
  rw [List.find?_eq_none.2 fun m hm => by simp [hp m hm]]
  rfl
set_option maxRecDepth 100000 in
set_option maxHeartbeats 1000000 in
theorem rtget_any {w : World} {B k r t : Nat} {ps : List Pg} {v : Value} {l : List Im} (h : RT w B k r ps t v l) (id : Int) :
    Calls Try.prog 11 #[.pointer (some ⟨t, 0, none⟩), .int .i64 id] w (PgPost (ssGet ps l id) w) := by
  have LN := Lib.hid h.len
  have H0 := Lib.hid (h.alloc (.cells Pg.zero.cs 42))
  have Z := Lib.hid (Bk.new w 42 Pg.zero.cs)
  have B0 := Lib.hid ((Below.refl w.heap.size w).alloc (Nat.le_refl _) (.cells Pg.zero.cs 42))
  obtain ⟨va, vc, rfl⟩ := ow_slice h.own
  clear h
  obtain ⟨res, hres⟩ : ∃ res, res = ssGet ps l id := ⟨_, rfl⟩
  rw [← hres]
  have HR := Lib.hid hres
  clear hres
  go_enter Try.func11, Try.ntmps11
  go_upto_region 1 with fail
  change Code.wp _ _ _ _ (w.alloc (.cells Pg.zero.cs 42))
  generalize w.alloc (.cells Pg.zero.cs 42) = w0 at *
  obtain ⟨G, hG⟩ : ∃ G, G = w.heap.size := ⟨_, rfl⟩
  rw [← hG] at Z ⊢
  have GL := Lib.hid (show w.heap.size ≤ G from Nat.le_of_eq hG.symm)
  clear hG
  have c0 : w0.cell? ⟨t, 0, none⟩ = some (.pointer (some ⟨k, 0, none⟩)) := H0.out.box.cell 0
  have c1 : w0.cell? ⟨t, 1, none⟩ = some (.slice va l.length vc) := H0.out.box.cell 1
  go_wp2_with fail
  go_loopw [6] (fun i wr => ∃ j : Nat, j ≤ l.length ∧ i = .int .i64 j ∧ (∀ m ∈ l.take j, m.id ≠ id) ∧ wr = w0) (fun i _ => l.length - (intOf i).toNat)
  case atStart => exact ⟨0, Nat.zero_le _, rfl, by simp, rfl⟩
  case round =>
    obtain ⟨j, hj, rfl, hp, hw⟩ := hrel
    subst hw
    have HP := Lib.hid hp
    clear hp
    by_cases hlt : j < l.length
    · have HLT := Lib.hid hlt
      have hjb : j < 1024 := by have := LN.out; omega
      obtain ⟨g, c, e1, _, hg⟩ := ow_form H0.out.own (by omega)
      obtain ⟨rfl, rfl⟩ : va = some ⟨g, 0, none⟩ ∧ vc = c := by simpa using e1
      obtain ⟨m, hm⟩ : ∃ m, l[j]? = some m := ⟨_, List.getElem?_eq_getElem hlt⟩
      have HM := Lib.hid hm
      have IR := H0.out.own.irow
      have hrow : IRow wr g l := by
        rcases IR with ⟨h0, _⟩ | ⟨g', c', e2, hh, _⟩
        · cases h0
        · obtain ⟨rfl, rfl⟩ : g = g' ∧ vc = c' := by simpa using e2
          exact hh
      have RG := Lib.hid (hrow.cells j m hm)
      have x0 : wr.cell? ⟨g, j * 17, none⟩ = some (.int .i64 m.id) := hrow.cells j m hm 0 _ rfl
      have RP := Lib.hid (show wr.rangeAt g (j * 17 + 1) m.p.cs.toList from fun q u hu => by rw [Nat.add_assoc, Nat.add_comm 1 q]; exact RG.out (q + 1) u hu)
      clear e1 IR hrow hm RG
      by_cases he : m.id = id
      · have LK := Lib.hid (look_at HM.out HP.out he)
        have HR2 := Lib.hid (show res = (m.p, 0) by rw [HR.out]; unfold ssGet stGet; rw [LK.out])
        subst he
        go_wp2_with (first | (refine wpList_load_mid rfl 42 _ rfl g (j * 17 + 1) rfl m.p.cs.toList _ RP.out Try.underlying42 rfl (by rw [pg_len]; kernel_rfl) ?_; rw [Array.toArray_toList]) | (refine store_page rfl _ _ rfl G m.p Pg.zero rfl rfl Z.out ?_))
        refine bodyPost_ret (page_res rfl _ _ G m.p.cs (row_bk Z.out) rfl rfl) rfl ?_
        exact ⟨by rw [HR2.out]; rfl, below_row B0.out GL.out⟩
      · have NX := Lib.hid (show ∀ q ∈ l.take (j + 1), q.id ≠ id by
          intro q hq
          rw [List.take_add_one, HM.out] at hq
          rcases List.mem_append.1 hq with h1 | h1
          · exact HP.out q h1
          · simp at h1; rw [h1]; exact he)
        go_wp2_with fail
        go_roundw
        case rel => exact ⟨j + 1, by have := HLT.out; omega, by go_num, NX.out, trivial⟩
        case measure => have := HLT.out; simp [intOf]; omega
    · have hjn : j = l.length := by omega
      subst hjn
      clear hlt hj
      have LK := Lib.hid (look_not (l := l) (id := id) (by have := HP.out; rwa [List.take_length] at this))
      have HR2 := Lib.hid (show res = getPg ps id by rw [HR.out]; unfold ssGet stGet; rw [LK.out])
      have CG := Lib.hid (rget_any H0.out.sh id)
      rw [← HR2.out] at CG
      obtain ⟨p, er⟩ := res
      go_wp2_with fail
      refine CG.out.mono ?_
      rintro e w1 ⟨rfl, hb⟩
      have Z1 := Lib.hid (Z.out.kept hb)
      have B1 := Lib.hid (below_then B0.out hb B0.out.size)
      clear hb CG Z B0 H0 c0 c1
      go_wp2_with (refine store_page rfl _ _ rfl G p Pg.zero rfl rfl Z1.out ?_)
      refine bodyPost_ret (page_res rfl _ _ G p.cs (row_bk Z1.out) rfl rfl) rfl ?_
      exact ⟨rfl, below_row B1.out GL.out⟩

theorem kp_run {v : World} {o : Oper} {a : Act} {K : Act → Prop} (u : Value) (hr : ∀ x : Kp v, (execOp a.eval o).run Try.prog x.1 = .ok (.value u) x.1) (h : K (a.put o.dst u)) : o.quiet Try.prog a (fun w' => ∃ x : Kp v, w' = x.1) K :=
  ⟨u, fun w ⟨x, hx⟩ => by subst hx; unfold Oper.quietAt; rw [hr x]; exact ⟨rfl, rfl⟩, h⟩
theorem q_load {v : World} {o : Oper} {a : Act} {K : Act → Prop} (ty : TypeId) (y : Operand) (ho : o.op = .load ty y) (p : Addr) (u : Value) (hx : a.eval y = .pointer (some p))
    (hr : ∀ x : Kp v, (loadVar ty p).run Try.prog x.1 = .ok u x.1) (h : K (a.put o.dst u)) : o.quiet Try.prog a (fun w' => ∃ x : Kp v, w' = x.1) K := by
  refine kp_run _ (fun x => ?_) h
  unfold execOp
  simp only [ho, hx, Instr.loadAt, Instr.sureAddr, Sem.run_bind, Sem.run_pure, Result.andThen_ok, hr x]
theorem q_neq {v : World} {o : Oper} {a : Act} {K : Act → Prop} (t t' : TypeId) (hg : Try.prog.eqGuardType Try.prog.depth t = false) (y z : Operand) (ho : o.op = .binOp .neq t y z t') (c d : Array Value) (u : Value) (hx : a.eval y = .agg c) (hy : a.eval z = .agg d)
    (hr : ∀ w : World, (binOp .neq t (.agg c) (.agg d)).run Try.prog w = .ok u w) (h : K (a.put o.dst u)) : o.quiet Try.prog a (fun w' => ∃ x : Kp v, w' = x.1) K := by
  refine kp_run _ (fun x => ?_) h
  unfold execOp
  have hh : (eqGuard .neq t y z (.agg c) (.agg d)).run Try.prog x.1 = .ok () x.1 := run_eqGuard_agg _ _ _ _ _ _ _ hg
  simp only [ho, hx, hy, Sem.run_bind, Sem.run_pure, Result.andThen_ok, hr x.1, hh]
theorem ld_int {g off : Nat} {v : Value} {w : World} (h : w.cell? ⟨g, off, none⟩ = some v) : (loadVar 3 ⟨g, off, none⟩).run Try.prog w = .ok v w := by
  simp [loadVar, run_underlying Try.underlying3, h]
theorem ld_pgs {g off : Nat} {v : Value} {w : World} (h : w.cell? ⟨g, off, none⟩ = some v) : (loadVar 29 ⟨g, off, none⟩).run Try.prog w = .ok v w := by
  simp [loadVar, run_underlying Try.underlying29, h]
theorem ld_ims {g off : Nat} {v : Value} {w : World} (h : w.cell? ⟨g, off, none⟩ = some v) : (loadVar 35 ⟨g, off, none⟩).run Try.prog w = .ok v w := by
  simp [loadVar, run_underlying Try.underlying35, h]
theorem ld_shelf {g off : Nat} {v : Value} {w : World} (h : w.cell? ⟨g, off, none⟩ = some v) : (loadVar 28 ⟨g, off, none⟩).run Try.prog w = .ok v w := by
  simp [loadVar, run_underlying Try.underlying28, h]
theorem ld_page {g off : Nat} {p : Pg} {w : World} (h : w.rangeAt g off p.cs.toList) : (loadVar 42 ⟨g, off, none⟩).run Try.prog w = .ok (.agg p.cs) w := by
  have := run_loadVar_mid w g off 42 p.cs.toList _ h Try.underlying42 rfl (by rw [pg_len]; kernel_rfl)
  rw [Array.toArray_toList] at this
  exact this
theorem Kp.range {v : World} (x : Kp v) {g off : Nat} {l : List Value} (h : v.rangeAt g off l) : x.1.rangeAt g off l := fun j u hu => x.cell (h j u hu)
theorem IRow.id_cell {w : World} {g : Nat} {l : List Im} (h : IRow w g l) {j : Nat} {m : Im} (hm : l[j]? = some m) : w.cell? ⟨g, j * 17, none⟩ = some (.int .i64 m.id) := h.cells j m hm 0 _ rfl
theorem IRow.page_range {w : World} {g : Nat} {l : List Im} (h : IRow w g l) {j : Nat} {m : Im} (hm : l[j]? = some m) : w.rangeAt g (j * 17 + 1) m.p.cs.toList := fun q u hu => by
  rw [Nat.add_assoc, Nat.add_comm 1 q]; exact h.cells j m hm (q + 1) u hu
theorem appE_no {ps : List Pg} {l : List Im} {j : Nat} {m : Im} (hm : l[j]? = some m) (h : ¬ m.fits ps.length) : ¬ fit ps.length l := fun hf => h (hf m (List.mem_of_getElem? hm))
set_option maxRecDepth 100000 in
set_option maxHeartbeats 2000000 in
theorem rapply_row {w : World} {B k r : Nat} {ps : List Pg} (h : RS w B k r ps) (b c : Nat) (l : List Im) (hl : IRow w b l) (hbr : b ≠ r) (hn : l.length ≤ 1024) :
    Calls Try.prog 18 #[.pointer (some ⟨k, 0, none⟩), .slice (some ⟨b, 0, none⟩) l.length c] w fun e w' =>
      (e = .returned (.int .i64 1) ∧ ¬ fit ps.length l ∧ Below w.heap.size w w') ∨ (e = .returned (.int .i64 0) ∧ fit ps.length l ∧ RS w' B k r (putAll ps l) ∧ w.grownBy w' (some r)) := by
  have H := Lib.hid h; have L := Lib.hid hl
  have LEN := Lib.hid hn
  clear h hl
  go_enter Try.func18, Try.ntmps18
  go_wp2_with fail
  go_loopw [5] (fun i wr => ∃ j : Nat, j ≤ l.length ∧ i = .int .i64 j ∧ (∀ m ∈ l.take j, m.fits ps.length) ∧ Below w.heap.size w wr) (fun i _ => l.length - (intOf i).toNat)
  case atStart => exact ⟨0, Nat.zero_le _, rfl, by simp, Below.refl _ _⟩
  case round =>
    obtain ⟨j, hj, rfl, hall, hb⟩ := hrel
    have HB := Lib.hid hb; have ALL := Lib.hid hall
    clear hb hall
    by_cases hlt : j < l.length
    · obtain ⟨m, hm⟩ : ∃ m, l[j]? = some m := ⟨_, List.getElem?_eq_getElem hlt⟩
      have HLT := Lib.hid hlt
      have hjb : j < 1024 := by omega
      have HM := Lib.hid hm
      have L1 := Lib.hid (L.out.kept HB.out)
      have H1 := Lib.hid (H.out.kept HB.out)
      have X0 := Lib.hid (L1.out.id_cell hm)
      have XP := Lib.hid (L1.out.page_range hm)
      have C0 := Lib.hid (H1.out.box.cell 0)
      have RR := Lib.hid (fun w => rright_any m.p w)
      unfold Pg.v at RR
      have hji : (j : Int) < (l.length : Int) := by omega
      clear hm
      by_cases h1 : m.id < 0
      · have NO := Lib.hid (appE_no HM.out fun (hf : m.fits ps.length) => by have := hf.1.1; omega)
        have H1' := Lib.hid h1
        clear h1
        go_upto_region 4 with fail
        have h1 := H1'.out
        have d1 : decide (m.id < 0) = true := decide_eq_true h1
        refine wp_region_kept (by kernel_rfl) (by kernel_rfl) ?_
        repeat (first
          | go_big_quiet_skip
          | (go_big_quiet_want; refine q_load 3 _ rfl ⟨b, j * 17, none⟩ (.int .i64 m.id) rfl (fun x => ld_int (x.cell X0.out)) ?_; simp only [Act.put, List.setIfInBounds_toArray, List.set_cons_succ, List.set_cons_zero]; go_big_quiet_on)
          | (go_big_quiet_want; refine q_load 29 _ rfl ⟨k, 0, none⟩ (.slice (some ⟨r, 0, none⟩) ps.length ps.length) rfl (fun x => ld_pgs (x.cell C0.out)) ?_; simp only [Act.put, List.setIfInBounds_toArray, List.set_cons_succ, List.set_cons_zero]; go_big_quiet_on)
          | (go_big_quiet_want; refine q_load 42 _ rfl ⟨b, j * 17 + 1, none⟩ (.agg m.p.cs) rfl (fun x => ld_page (x.range XP.out)) ?_; simp only [Act.put, List.setIfInBounds_toArray, List.set_cons_succ, List.set_cons_zero]; go_big_quiet_on)
          | (go_big_quiet_want; go_big_quiet_op; first | go_big_quiet_on | go_big_quiet_call (exact kp_call (RR.out _))))
        refine wpQuiet_nil ?_
        rintro _ ⟨x, rfl⟩
        have HX := Lib.hid (HB.out.trans (x.2.mono HB.out.size))
        go_wp2
        go_ret
        exact .inl ⟨rfl, NO.out, HX.out⟩
      by_cases h2 : (ps.length : Int) ≤ m.id
      · have NO := Lib.hid (appE_no HM.out fun (hf : m.fits ps.length) => by have := hf.1.2; omega)
        have H1' := Lib.hid h1; have H2' := Lib.hid h2
        clear h1 h2
        go_upto_region 4 with fail
        have h1 := H1'.out
        have h2 := H2'.out
        have d1 : decide (m.id < 0) = false := decide_eq_false h1
        have d2 : decide ((ps.length : Int) ≤ m.id) = true := decide_eq_true h2
        refine wp_region_kept (by kernel_rfl) (by kernel_rfl) ?_
        repeat (first
          | go_big_quiet_skip
          | (go_big_quiet_want; refine q_load 3 _ rfl ⟨b, j * 17, none⟩ (.int .i64 m.id) rfl (fun x => ld_int (x.cell X0.out)) ?_; simp only [Act.put, List.setIfInBounds_toArray, List.set_cons_succ, List.set_cons_zero]; go_big_quiet_on)
          | (go_big_quiet_want; refine q_load 29 _ rfl ⟨k, 0, none⟩ (.slice (some ⟨r, 0, none⟩) ps.length ps.length) rfl (fun x => ld_pgs (x.cell C0.out)) ?_; simp only [Act.put, List.setIfInBounds_toArray, List.set_cons_succ, List.set_cons_zero]; go_big_quiet_on)
          | (go_big_quiet_want; refine q_load 42 _ rfl ⟨b, j * 17 + 1, none⟩ (.agg m.p.cs) rfl (fun x => ld_page (x.range XP.out)) ?_; simp only [Act.put, List.setIfInBounds_toArray, List.set_cons_succ, List.set_cons_zero]; go_big_quiet_on)
          | (go_big_quiet_want; go_big_quiet_op; first | go_big_quiet_on | go_big_quiet_call (exact kp_call (RR.out _))))
        refine wpQuiet_nil ?_
        rintro _ ⟨x, rfl⟩
        have HX := Lib.hid (HB.out.trans (x.2.mono HB.out.size))
        go_wp2
        go_ret
        exact .inl ⟨rfl, NO.out, HX.out⟩
      by_cases h3 : m.p.ok
      · have OK := Lib.hid (show ∀ q ∈ l.take (j + 1), q.fits ps.length by
          intro q hq
          rw [List.take_add_one, HM.out] at hq
          rcases List.mem_append.1 hq with h | h
          · exact ALL.out q h
          · simp at h; rw [h]; exact ⟨⟨by omega, by omega⟩, h3⟩)
        have H1' := Lib.hid h1; have H2' := Lib.hid h2
        rw [decide_eq_true h3] at RR
        clear h1 h2 h3
        go_upto_region 4 with fail
        have h1 := H1'.out
        have h2 := H2'.out
        have d1 : decide (m.id < 0) = false := decide_eq_false h1
        have d2 : decide ((ps.length : Int) ≤ m.id) = false := decide_eq_false h2
        refine wp_region_kept (by kernel_rfl) (by kernel_rfl) ?_
        repeat (first
          | go_big_quiet_skip
          | (go_big_quiet_want; refine q_load 3 _ rfl ⟨b, j * 17, none⟩ (.int .i64 m.id) rfl (fun x => ld_int (x.cell X0.out)) ?_; simp only [Act.put, List.setIfInBounds_toArray, List.set_cons_succ, List.set_cons_zero]; go_big_quiet_on)
          | (go_big_quiet_want; refine q_load 29 _ rfl ⟨k, 0, none⟩ (.slice (some ⟨r, 0, none⟩) ps.length ps.length) rfl (fun x => ld_pgs (x.cell C0.out)) ?_; simp only [Act.put, List.setIfInBounds_toArray, List.set_cons_succ, List.set_cons_zero]; go_big_quiet_on)
          | (go_big_quiet_want; refine q_load 42 _ rfl ⟨b, j * 17 + 1, none⟩ (.agg m.p.cs) rfl (fun x => ld_page (x.range XP.out)) ?_; simp only [Act.put, List.setIfInBounds_toArray, List.set_cons_succ, List.set_cons_zero]; go_big_quiet_on)
          | (go_big_quiet_want; go_big_quiet_op; first | go_big_quiet_on | go_big_quiet_call (exact kp_call (RR.out _))))
        refine wpQuiet_nil ?_
        rintro _ ⟨x, rfl⟩
        have HX := Lib.hid (HB.out.trans (x.2.mono HB.out.size))
        go_wp2
        go_roundw
        case rel => exact ⟨j + 1, by have := HLT.out; omega, by go_num, OK.out, HX.out⟩
        case measure => have := HLT.out; simp [intOf]; omega
      · have NO := Lib.hid (appE_no HM.out fun (hf : m.fits ps.length) => h3 hf.2)
        have H1' := Lib.hid h1; have H2' := Lib.hid h2
        rw [decide_eq_false h3] at RR
        clear h1 h2 h3
        go_upto_region 4 with fail
        have h1 := H1'.out
        have h2 := H2'.out
        have d1 : decide (m.id < 0) = false := decide_eq_false h1
        have d2 : decide ((ps.length : Int) ≤ m.id) = false := decide_eq_false h2
        refine wp_region_kept (by kernel_rfl) (by kernel_rfl) ?_
        repeat (first
          | go_big_quiet_skip
          | (go_big_quiet_want; refine q_load 3 _ rfl ⟨b, j * 17, none⟩ (.int .i64 m.id) rfl (fun x => ld_int (x.cell X0.out)) ?_; simp only [Act.put, List.setIfInBounds_toArray, List.set_cons_succ, List.set_cons_zero]; go_big_quiet_on)
          | (go_big_quiet_want; refine q_load 29 _ rfl ⟨k, 0, none⟩ (.slice (some ⟨r, 0, none⟩) ps.length ps.length) rfl (fun x => ld_pgs (x.cell C0.out)) ?_; simp only [Act.put, List.setIfInBounds_toArray, List.set_cons_succ, List.set_cons_zero]; go_big_quiet_on)
          | (go_big_quiet_want; refine q_load 42 _ rfl ⟨b, j * 17 + 1, none⟩ (.agg m.p.cs) rfl (fun x => ld_page (x.range XP.out)) ?_; simp only [Act.put, List.setIfInBounds_toArray, List.set_cons_succ, List.set_cons_zero]; go_big_quiet_on)
          | (go_big_quiet_want; go_big_quiet_op; first | go_big_quiet_on | go_big_quiet_call (exact kp_call (RR.out _))))
        refine wpQuiet_nil ?_
        rintro _ ⟨x, rfl⟩
        have HX := Lib.hid (HB.out.trans (x.2.mono HB.out.size))
        go_wp2
        go_ret
        exact .inl ⟨rfl, NO.out, HX.out⟩
    · have hjn : j = l.length := by omega
      subst hjn
      clear hlt hj
      have FI := Lib.hid (show ∀ m ∈ l, m.fits ps.length by have := ALL.out; rwa [List.take_length] at this)
      have H1 := Lib.hid (show RS wr B k r (putAll ps (l.take 0)) from H.out.kept HB.out)
      have G1 := Lib.hid (only_below HB.out (some r))
      have HK := Lib.hid (L.out.lt)
      clear ALL
      go_wp2_with fail
      go_loopw [6] (fun i wx => ∃ j : Nat, j ≤ l.length ∧ i = .int .i64 j ∧ RS wx B k r (putAll ps (l.take j)) ∧ w.grownBy wx (some r)) (fun i _ => l.length - (intOf i).toNat)
      case atStart => exact ⟨0, Nat.zero_le _, rfl, H1.out, G1.out⟩
      case round =>
        obtain ⟨j, hj, rfl, hs, hg⟩ := hrel
        have HS := Lib.hid hs; have HG := Lib.hid hg
        clear hs hg H1 G1 HB
        by_cases hlt : j < l.length
        · obtain ⟨m, hm⟩ : ∃ m, l[j]? = some m := ⟨_, List.getElem?_eq_getElem hlt⟩
          have HLT := Lib.hid hlt
          have hjb : j < 1024 := by have := LEN.out; omega
          have FIT := Lib.hid (FI.out m (List.mem_of_getElem? hm))
          have STEP := Lib.hid (show putAll ps (l.take (j + 1)) = (putAll ps (l.take j)).set m.id.toNat m.p by
            unfold putAll
            rw [List.take_add_one, hm, List.foldl_append]
            rfl)
          have hpl : (putAll ps (l.take j)).length = ps.length := putAll_len _ _
          obtain ⟨q, hq⟩ : ∃ q : Nat, m.id = q := ⟨m.id.toNat, by have := FIT.out.1.1; omega⟩
          have HQ := Lib.hid hq
          have KL := Lib.hid (show q < (putAll ps (l.take j)).length by rw [hpl]; have := FIT.out.1.2; omega)
          have LX := Lib.hid (IRow.of_block L.out HG.out.size (HG.out.block b HK.out (fun e => hbr (by injection e))))
          have x0 : wr.drew.cell? ⟨b, j * 17, none⟩ = some (.int .i64 q) := by have := LX.out.id_cell hm; rw [hq] at this; exact this
          have XP := Lib.hid (LX.out.page_range hm)
          have c0 : wr.drew.cell? ⟨k, 0, none⟩ = some (.slice (some ⟨r, 0, none⟩) ps.length ps.length) := by have := HS.out.box.cell 0; rw [hpl] at this; exact this
          have hji : (j : Int) < (l.length : Int) := by omega
          have hqi : (q : Int) < (ps.length : Int) := by have := KL.out; omega
          clear hm hq
          go_upto_region 9 with fail
          refine wp_region_still_tail 15 (by kernel_rfl) (by kernel_rfl) ?_
          simp only [List.take_succ_cons, List.take_zero, List.drop_succ_cons, List.drop_zero]
          still_step
          still_step
          still_step
          still_step
          still_step
          still_step
          still_step
          still_step
          still_step
          still_step
          still_step
          still_step
          still_step
          refine still_page_at_w _ rfl (by first | rfl | kernel_rfl) b (j * 17 + 1) m.p rfl XP.out ?_
          still_step
          refine wpStill_nil ?_
          change wpList _ _ _ _ _ wr.drew
          have GR := Lib.hid (show k ≠ r from Bk.ne_ HS.out.box HS.out.row (by decide))
          have HR := Lib.hid (show PRow wr.drew r (putAll ps (l.take j)) from Bk.drew HS.out.row)
          have HD := Lib.hid (only_drew HG.out)
          refine (store_page_at rfl _ _ rfl r (putAll ps (l.take j)) q m.p KL.out rfl rfl HR.out ?_)
          intro hr3
          have HN := Lib.hid (show RS (wr.drew.setCells r (q * 16) m.p.cs.toList) B k r (putAll ps (l.take (j + 1))) by
            rw [STEP.out, HQ.out, Int.toNat_natCast]
            have hlen : ((putAll ps (l.take j)).set q m.p).length = (putAll ps (l.take j)).length := List.length_set
            refine ⟨?_, hr3, by rw [hlen]; exact HS.out.one, by rw [hlen]; exact HS.out.most, HS.out.bk, HS.out.br⟩
            rw [hlen]
            exact (setCells_other r k _ wr.drew _ GR.out).trans HS.out.box)
          have GN := Lib.hid (only_trans HD.out (setCells_only wr.drew r (q * 16) m.p.cs.toList))
          clear hr3 c0 x0
          go_wp2
          go_roundw
          case rel => have hx := HLT.out; exact ⟨j + 1, hx, by go_num, HN.out, GN.out⟩
          case measure => have := HLT.out; simp [intOf]; omega
        · have hjn : j = l.length := by omega
          subst hjn
          have HS := Lib.hid (show RS wr B k r (putAll ps l) by have := HS.out; rwa [List.take_length] at this)
          clear hlt hj
          go_wp2
          go_ret
          exact .inr ⟨rfl, FI.out, HS.out, HG.out⟩
end Go.Proofs.Ythapmkgcaghadaa
