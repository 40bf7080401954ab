/- Layer 12: a page is loaded; Get. Layer 12: Get. -/
import Derived.Test.YtgafajbdmegfgaaGreatPolWr
import Derived.Test.YtgafajbdmegfgaaGreatPgDec
import Derived.Laws.ResultCell
import Derived.OrdersHeld
import Derived.Deep.RegionLaw
set_option linter.unusedVariables false
set_option linter.unusedSimpArgs false
namespace Go.Proofs.YtgafajbdmegfgaaGreat
open Go.RowKit

section
variable {ops : Array Oper} {Q : Exit → Act → World → Prop} {K : Act → World → Prop} {i : Nat} {o : Oper} {a : Act} {w : World}
theorem pk_take {P : Program} {md : Region.Mode} {S : World → Prop} {oi : Oper} {v : Value} {fuel : Nat} {listed : Array Bool} (d : Nat) (hi : ops[i]? = some oi) (hd : oi.dst = some d)
    (hs : Region.noSelect ops = true) (hf : Region.free md ops listed i = true) (hr : (Region.ready md ops listed).contains i = true)
    (hQ : ∀ c a w, Q (.panic c) (a.put (some d) v) w → Q (.panic c) a w) (hy : YieldsIf P ops S oi v a) (hS : S w)
    (h : wpAnyH P md ops Q S fuel (listed.setIfInBounds i true) (a.put (some d) v) w) : wpAnyH P md ops Q S (fuel + 1) listed a w :=
  wpAnyH_take hi hs hf hr (by rw [hd]; exact hQ) hy hS (by rw [hd]; exact h)
theorem pk_ready {P : Program} {md : Region.Mode} {S : World → Prop} {fuel : Nat} {listed : Array Bool} (i : Nat) (hr : Region.ready md ops listed = [i])
    (h : wpOp P ops Q i (fun a' w' => S w' ∧ wpAnyH P md ops Q S fuel (listed.setIfInBounds i true) a' w') a w) : wpAnyH P md ops Q S (fuel + 1) listed a w :=
  wpAnyH_all hr (by simp) fun j hj => by
    obtain rfl : j = i := by simpa using hj
    exact h
theorem pk_move {P : Program} {S : World → Prop} (y : Operand) (ho : o.op = .move y) (hw : Region.wanted o (yielded ops a.tmps) = true) : YieldsIf P ops S o (a.eval y) a :=
  .inl ⟨hw, fun w h => BigFrame.run_move y ho w⟩
theorem pk_page {S : World → Prop} (y : Operand) (ho : o.op = .load 41 y) (hw : Region.wanted o (yielded ops a.tmps) = true) (g : Nat) (p : Pg)
    (hx : a.eval y = .pointer (some ⟨g, 0, none⟩)) (hS : ∀ w, S w → Bk w g 41 p.cs) : YieldsIf Tryz.prog ops S o (.agg p.cs) a := by
  refine .inl ⟨hw, fun w h => ?_⟩
  unfold execOp
  simp only [ho, hx, Instr.loadAt, Instr.sureAddr, Sem.run_bind, Sem.run_pure, Result.andThen_ok, run_loadPage w g p.cs (hS w h) rfl]
theorem pk_store (hi : ops[i]? = some o) (x y : Operand) (ho : o.op = .store 82 x y) (hd : o.dst = none) (hw : Region.wanted o (yielded ops a.tmps) = true) (g : Nat) (p q : Sl)
    (hx : a.eval x = .pointer (some ⟨g, 0, none⟩)) (hy : a.eval y = .agg p.cs) (hb : Bk w g 82 q.cs) (h : K a (w.setRow g p.cs)) : wpOp Tryz.prog ops Q i K a w := by
  unfold wpOp
  simp only [hi, hw, if_true]
  exact .inl (wp_store_row 82 x y ho g p.cs hx hy 82 q.cs hb (by rw [Sl.cs_size]; kernel_rfl) rfl (by simp [Sl.cs, Pg.cs, Value.oneCell']) (by rw [hd]; exact h))
end
section
variable {ops : Array Oper} {rest : List Oper} {o : Oper} {a : Act} {w : World} {Q : Exit → Act → World → Prop}
theorem pbuild0 (hg : o.guard = none) (ho : o.op = .build 41 #[]) (h : wpList Tryz.prog ops Q rest (a.put o.dst (.agg Pg.zero.cs)) w) : wpList Tryz.prog ops Q (o :: rest) a w := by
  refine wpList_plain hg fun K' hK' => ?_
  have hb : (Instr.build 41 #[]).run Tryz.prog w = .ok (.agg Pg.zero.cs) w := by kernel_rfl
  unfold Oper.wp execOp
  simp only [ho, Sem.run_bind, Sem.run_pure, Result.andThen_ok, List.map_toArray, List.map_nil, hb]
  exact hK' _ _ h
theorem pload_arr (hgd : o.guard = none) (x : Operand) (ho : o.op = .load 95 x) (g : Nat) (s : Nat → ByteArray) (hx : a.eval x = .pointer (some ⟨g, 0, none⟩)) (hb : Bk w g 95 (Fr.arr s))
    (h : wpList Tryz.prog ops Q rest (a.put o.dst (.agg (Fr.arr s))) w) : wpList Tryz.prog ops Q (o :: rest) a w :=
  wpList_load_row hgd 95 x ho g hx 95 (Fr.arr s) (0, 0) _ hb Tryz.underlying95 rfl (by rw [show (Fr.arr s).size = 4 from rfl]; kernel_rfl) h
end
theorem ppage_ct {fn : Func} {p u : Tmp} (hf : fn.results = #[.cell p 41, .tmp u]) (tmps : Array Value) (w : World) (g : Nat) (x : Pg) (h : Bk w g 41 x.cs) (hp : tmps.getD p undef = .pointer (some ⟨g, 0, none⟩)) :
    (results fn tmps).run Tryz.prog w = .ok (.tuple #[.agg x.cs, tmps.getD u undef]) w := by
  rw [results_cell_tmp (p := p) (u := u) (ty := 41) hf, hp]
  have := run_loadPage w g x.cs h rfl
  simp [asAddr, Sem.run_pure, Result.andThen, this]
/-- The sectors of a page, as the device has them. -/
def secsOf (S : Dsk) (base id : Nat) (k : Nat) : ByteArray := S.now.getD (base + 4 * id + k) ⟨#[]⟩
def loadP (S : Dsk) (base id : Nat) : Pg × Int :=
  if S.down = true then (Pg.zero, 20) else if (Fr.opened (secsOf S base id)).2.2 = 0 then (Pg.dec (Fr.opened (secsOf S base id)).1, decErr (Fr.opened (secsOf S base id)).1) else (Pg.zero, (Fr.opened (secsOf S base id)).2.2)
set_option maxRecDepth 100000 in
set_option maxHeartbeats 8000000 in
theorem pload_any {w : World} {B : Nat} {I : Ids} {J : Pd} {P : Po} {S : Dsk} (hD : Dk w B I S) (hP : Pq w B J P) (ed : J.dp = I.ptr) (id : Nat) (hid : id < P.pages) (hfit : P.base + 4 * P.pages ≤ S.firm.length) :
    Calls Tryz.prog 27 #[J.ptr, .int .i64 (id : Int)] w fun e w' => e = .returned (.tuple #[.agg (loadP S P.base id).1.cs, .int .i64 (loadP S P.base id).2]) ∧ Below w.heap.size w w' := by
  obtain ⟨g, sv, bs, dp, lp⟩ := J
  dsimp only at ed
  subst ed
  have okb := hP.ok.b0
  have hid1 : id < 1024 := Nat.lt_of_lt_of_le hid hP.ok.p2
  have D := Lib.hid hD; have PQ := Lib.hid hP
  have FIT := Lib.hid (show P.base + 4 * id + 4 ≤ S.firm.length by omega)
  have szs := hD.ok.sizes
  have SZS := Lib.hid (show ∀ k, k < 4 → (secsOf S P.base id k).size = 64 from fun k hk => szs _ (by rw [hD.ok.len]; have := FIT.out; omega))
  clear hD hP hid hfit szs
  unfold Pd.ptr Ids.ptr
  dsimp only
  have B1 := Lib.hid (((Below.refl w.heap.size w).alloc (Nat.le_refl _) (.cells Pg.zero.cs 41)).alloc (by simp) (.cells (Fr.arr Fr.nils) 95))
  have R1 := Lib.hid ((Bk.new w 41 Pg.zero.cs).alloc (.cells (Fr.arr Fr.nils) 95))
  have A1 := Lib.hid (Bk.new2 w (.cells Pg.zero.cs 41) 95 (Fr.arr Fr.nils))
  obtain ⟨R, hR⟩ : ∃ R, R = w.heap.size := ⟨_, rfl⟩
  have NRA := Lib.hid (show R < R + 1 from Nat.lt_succ_self R)
  rw [← hR] at R1 A1
  have HR := Lib.hid hR
  clear hR
  go_enter Tryz.func27, Tryz.ntmps27
  go_upto_region 3 with fail
  rw [← HR.out]
  go_loopw [13] (fun i wr => ∃ (q : Nat), q ≤ 4 ∧ i = .int .i64 q ∧ (S.down = true → q = 0) ∧ Bk wr R 41 Pg.zero.cs ∧ Bk wr (R + 1) 95 (Fr.arr (Fr.upto (secsOf S P.base id) q)) ∧ Below w.heap.size w wr) (fun i _ => 4 - (intOf i).toNat)
  case atStart => exact ⟨0, Nat.zero_le _, rfl, fun _ => rfl, R1.out, by rw [Fr.upto_zero]; exact A1.out, B1.out⟩
  case round =>
    obtain ⟨q, hq, rfl, hdn, hr, ha, hb⟩ := hrel
    have R2 := Lib.hid hr; have A2 := Lib.hid ha; have B2 := Lib.hid hb; have DN := Lib.hid hdn
    clear hr ha hb hdn R1 A1 B1
    by_cases hlt : q < 4
    · have HLT := Lib.hid hlt
      have c0 : wr.cell? ⟨g, 0, none⟩ = some (.pointer (some ⟨I.g, 0, none⟩)) := (PQ.out.kept B2.out).cells.1
      have LS := Lib.hid (fun w' (hb : Below w.heap.size w w') => show Calls Tryz.prog 49 #[.pointer (some ⟨g, 0, none⟩), .int .i64 (id : Int)] w' _ from sector_at (PQ.out.kept hb) id hid1)
      have LR := Lib.hid (fun w' (hb : Below w.heap.size w w') => show Calls Tryz.prog 39 #[.pointer (some ⟨I.g, 0, none⟩), .int .i64 ((P.base : Int) + 4 * (id : Int) + (q : Int))] w' _ from read_any (D.out.kept hb) ((P.base : Int) + 4 * (id : Int) + (q : Int)))
      have wsec : IntKind.i64.wrap ((P.base : Int) + 4 * (id : Int) + (q : Int)) = (P.base : Int) + 4 * (id : Int) + (q : Int) := by rw [IntKind.wrap_i64]; omega
      have RV := Lib.hid (show S.read ((P.base : Int) + 4 * (id : Int) + (q : Int)) = if S.down = true then (⟨#[]⟩, 20) else (secsOf S P.base id q, 0) from by
        have e : (P.base : Int) + 4 * (id : Int) + (q : Int) = ((P.base + 4 * id + q : Nat) : Int) := by omega
        unfold Dsk.read
        rw [e]
        by_cases hd : S.down = true
        · rw [if_pos hd, if_pos hd]
        · rw [if_neg hd, if_neg hd, if_pos ⟨by omega, by have := FIT.out; omega⟩]
          rfl)
      as_aux_lemma =>
        go_wp2_with fail
        go_region_held3 (fun w' => w'.cell? ⟨g, 0, none⟩ = some (.pointer (some ⟨I.g, 0, none⟩))) (first | exact c0)
          (first
            | (go_simp; go_at_call 49; refine (LS.out _ B2.out.drew).mono ?_; rintro e wa ⟨rfl, rfl⟩)
            | (go_simp; go_at_call 39; refine (LR.out _ B2.out.drew).mono ?_; rintro e wf ⟨rfl, rfl⟩))
        generalize S.read ((P.base : Int) + 4 * (id : Int) + (q : Int)) = X at *
        have R3 := Lib.hid R2.out.drew; have A3 := Lib.hid A2.out.drew; have B3 := Lib.hid B2.out.drew
        clear LS LR c0 wsec R2 A2 B2
        by_cases hd : S.down = true
        · obtain rfl : X = (⟨#[]⟩, 20) := by rw [RV.out, if_pos hd]
          have RES := Lib.hid (show loadP S P.base id = (Pg.zero, 20) from if_pos hd)
          clear RV hd
          generalize wr.drew = w3 at *
          as_aux_lemma =>
            go_wp2_with (first | (refine pbuild0 rfl rfl ?_) | (refine store_page rfl _ _ rfl R Pg.zero Pg.zero rfl rfl R3.out ?_))
            refine bodyPost_ret (ppage_ct rfl _ _ R Pg.zero (setRow_heap _ _ _ _ _ _ R3.out) rfl) rfl ?_
            rw [RES.out]
            exact ⟨rfl, below_setRow B3.out (Nat.le_of_eq HR.out.symm) _⟩
        · obtain rfl : X = (secsOf S P.base id q, 0) := by rw [RV.out, if_neg hd]
          have HDN := Lib.hid hd
          clear RV hd
          have ya : wr.drew.cell? ⟨R + 1, q, none⟩ = some (.string (Fr.upto (secsOf S P.base id) q q)) := by rw [A3.out.cell, Fr.arr_get _ q hlt]
          have fa := A3.out.fz q
          have R4 := Lib.hid (R3.out.far (p := ⟨R + 1, q, none⟩) (Nat.ne_of_lt NRA.out) (.string (secsOf S P.base id q)))
          have A4 := Lib.hid (show Bk (wr.drew.setCell ⟨R + 1, q, none⟩ (.string (secsOf S P.base id q))) (R + 1) 95 (Fr.arr (Fr.upto (secsOf S P.base id) (q + 1))) from by
            rw [← Fr.arr_set _ q hlt]; exact A3.out.set q _)
          have B4 := Lib.hid (B3.out.setCell (p := ⟨R + 1, q, none⟩) (show w.heap.size ≤ R + 1 by rw [← HR.out]; exact Nat.le_succ _) (.string (secsOf S P.base id q)))
          clear R3 A3 B3
          generalize secsOf S P.base id q = sq at *
          generalize wr.drew = w3 at *
          as_aux_lemma =>
            go_wp2
            go_roundw
            case rel => exact ⟨q + 1, by have := HLT.out; omega, by go_num, fun h => absurd h HDN.out, R4.out, A4.out, B4.out⟩
            case measure => have := HLT.out; simp [intOf]; omega
    · obtain rfl : q = 4 := by omega
      have HDN := Lib.hid (show ¬ S.down = true from fun h => by have := DN.out h; omega)
      have A3 := Lib.hid (show Bk wr (R + 1) 95 (Fr.arr (secsOf S P.base id)) from by have := A2.out; rw [Fr.arr_full] at this; exact this)
      have CO := Lib.hid (fun w' => show Calls Tryz.prog 50 #[.agg (Fr.arr (secsOf S P.base id))] w' _ from open_any (secsOf S P.base id) w' (fun i hi => by rw [SZS.out i hi]; unfold maxLen; omega))
      have RES := Lib.hid (show loadP S P.base id = if (Fr.opened (secsOf S P.base id)).2.2 = 0 then (Pg.dec (Fr.opened (secsOf S P.base id)).1, decErr (Fr.opened (secsOf S P.base id)).1) else (Pg.zero, (Fr.opened (secsOf S P.base id)).2.2) from if_neg HDN.out)
      clear hlt hq DN A2
      as_aux_lemma =>
        go_wp2_with (refine pload_arr rfl _ rfl (R + 1) (secsOf S P.base id) rfl A3.out ?_)
        refine (CO.out _).mono ?_
        rintro e w5 ⟨rfl, hb⟩
        have R5 := Lib.hid (R2.out.kept hb)
        have B5 := Lib.hid (below_then B2.out hb B2.out.size)
        clear hb CO A3 R2 B2
        generalize Fr.opened (secsOf S P.base id) = X at *
        obtain ⟨body, st, er⟩ := X
        dsimp only at RES ⊢
        by_cases he : er = 0
        · subst he
          rw [if_pos rfl] at RES
          have CD := Lib.hid (fun w' => show Calls Tryz.prog 51 #[.string body] w' (fun e w'' => e = .returned (.tuple #[.agg (Pg.dec body).cs, .int .i64 (decErr body)]) ∧ Below w'.heap.size w' w'') from decode_any body w')
          generalize Pg.dec body = pp at *
          generalize decErr body = ep at *
          as_aux_lemma =>
            go_wp2_with fail
            refine (CD.out _).mono ?_
            rintro e w6 ⟨rfl, hb⟩
            have R6 := Lib.hid (R5.out.kept hb)
            have B6 := Lib.hid (below_then B5.out hb B5.out.size)
            clear hb CD R5 B5
            as_aux_lemma =>
              go_wp2_with (refine store_page rfl _ _ rfl R pp Pg.zero rfl rfl R6.out ?_)
              refine bodyPost_ret (ppage_ct rfl _ _ R pp (setRow_heap _ _ _ _ _ _ R6.out) rfl) rfl ?_
              rw [RES.out]
              exact ⟨rfl, below_setRow B6.out (Nat.le_of_eq HR.out.symm) _⟩
        · rw [if_neg he] at RES
          have hne : (er != 0) = true := by simp [he]
          have hne' : (er == 0) = false := by simp [he]
          clear he
          as_aux_lemma =>
            go_wp2_with (first | (refine pbuild0 rfl rfl ?_) | (refine store_page rfl _ _ rfl R Pg.zero Pg.zero rfl rfl R5.out ?_))
            refine bodyPost_ret (ppage_ct rfl _ _ R Pg.zero (setRow_heap _ _ _ _ _ _ R5.out) rfl) rfl ?_
            rw [RES.out]
            exact ⟨rfl, below_setRow B5.out (Nat.le_of_eq HR.out.symm) _⟩
end Go.Proofs.YtgafajbdmegfgaaGreat
namespace Go.Proofs.YtgafajbdmegfgaaGreat
open Go.RowKit

theorem prow_only (w : World) (g : Nat) (cs : Array Value) : w.grownBy (w.setRow g cs) (some g) := ⟨rfl, rfl, rfl, by simp [World.setRow], fun k hk hne => setRow_other w g k cs (fun e => hne (by rw [e]))⟩
/-- What Get answers, and what comes of the pool. -/
def GetRel (P : Po) (S : Dsk) (id : Nat) (P' : Po) (x : Pg) (er : Int) : Prop :=
  (∃ (j : Nat) (hj : j < P.ss.length), (P.ss[j]).id = (id : Int) ∧ P' = { P with ss := P.ss.set j { P.ss[j] with us := true } } ∧ x = (P.ss[j]).p ∧ er = 0) ∨
  ((∀ s ∈ P.ss, s.id ≠ (id : Int)) ∧ (loadP S P.base id).2 ≠ 0 ∧ P' = P ∧ x = Pg.zero ∧ er = (loadP S P.base id).2) ∨
  ((∀ s ∈ P.ss, s.id ≠ (id : Int)) ∧ loadP S P.base id = (x, 0) ∧ er = 0 ∧ ∃ (P1 : Po) (i : Nat) (ok : Bool), Sp P P1 i ok ∧ (ok = false ∧ P' = P1 ∨ ok = true ∧ ∃ (hi : i < P1.ss.length), P' = { P1 with ss := P1.ss.set i ⟨id, x, 0, false, true⟩ }))
def GetPost (w : World) (B : Nat) (J : Pd) (P : Po) (S : Dsk) (id : Nat) (e : Ending) (w' : World) : Prop :=
  ∃ (J' : Pd) (P' : Po) (x : Pg) (er : Int), e = .returned (.tuple #[.agg x.cs, .int .i64 er]) ∧ Pq w' B J' P' ∧ J'.g = J.g ∧ J'.dp = J.dp ∧ J'.lp = J.lp ∧ GetRel P S id P' x er ∧ Out w w' (SF B w)
theorem setRow_cell (w : World) (g : Nat) (cs : Array Value) (p : Addr) (h : p.block ≠ g) : (w.setRow g cs).cell? p = w.cell? p := by
  have := setRow_other w g p.block cs h
  unfold World.cell?
  rw [this]
theorem sf_new {a b c : World} {B r : Nat} (h : Out a b (SF B a)) (hg : b.grownBy c (some r)) (hr : a.heap.size ≤ r) : Out a c (SF B a) :=
  h.then_ (.of_grown hg fun k hk _ => hk) fun i hi e => by injection e with e; omega
theorem Sp.ids {P P' : Po} {i : Nat} {ok : Bool} (h : Sp P P' i ok) {id : Int} (hn : ∀ s ∈ P.ss, s.id ≠ id) (h0 : 0 ≤ id) : ∀ s ∈ P'.ss, s.id ≠ id := fun s hs => by
  obtain ⟨j, hj, rfl⟩ := List.mem_iff_getElem.1 hs
  by_cases e : j < P.ss.length
  · obtain ⟨hj', hl⟩ := h.same j e
    rw [hl.1]
    exact hn _ (List.getElem_mem e)
  · rcases h.new with e1 | ⟨e1, -, -, e2⟩
    · omega
    · have : j = P.ss.length := by omega
      subst this
      rw [List.getElem?_eq_getElem hj] at e2
      injection e2 with e2
      rw [e2]
      show (-1 : Int) ≠ id
      omega
theorem Pq.lay {w : World} {B : Nat} {J : Pd} {P : Po} (h : Pq w B J P) (i : Nat) (hi : i < P.ss.length) (hb : i < J.bs.length) (s : Sl) (h1 : s.id = -1 ∨ (0 ≤ s.id ∧ s.id < P.pages)) (h2 : s.st ≤ 9223372036854775807) (h3 : ∀ k (hk : k < P.ss.length), k ≠ i → (P.ss[k]).id = s.id → s.id = -1) :
    Pq (w.setRow (J.bs[i]) s.cs) B J { P with ss := P.ss.set i s } :=
  h.put i hi hb s (prow_only w _ _) (setRow_heap _ _ _ _ _ _ (h.sl i hb hi)) (h.ok.set hi s h1 h2 h3)
set_option maxRecDepth 100000 in
set_option maxHeartbeats 8000000 in
theorem pget_any {w : World} {B : Nat} {I : Ids} {J : Pd} {P : Po} {S : Dsk} (hD : Dk w B I S) (hP : Pq w B J P) (ed : J.dp = I.ptr) (id : Nat) (hid : id < P.pages) (hfit : P.base + 4 * P.pages ≤ S.firm.length) (hB : B ≤ w.heap.size) :
    Calls Tryz.prog 9 #[J.ptr, .int .i64 (id : Int)] w (GetPost w B J P S id) := by
  have D := Lib.hid hD; have PQ := Lib.hid hP; have ED := Lib.hid ed; have HID := Lib.hid hid; have FIT := Lib.hid hfit; have HB := Lib.hid hB
  have hid1 : id < 1024 := Nat.lt_of_lt_of_le hid hP.ok.p2
  have hI0 : (0 : Int) ≤ (id : Int) := by omega
  have hI1 : (id : Int) < (P.pages : Int) := by omega
  have R1 := Lib.hid (Bk.new w 41 Pg.zero.cs)
  have P1 := Lib.hid (hP.alloc (.cells Pg.zero.cs 41))
  have D1 := Lib.hid (hD.kept ((Below.refl w.heap.size w).alloc (Nat.le_refl _) (.cells Pg.zero.cs 41)))
  have O1 := Lib.hid (show Out w (w.alloc (.cells Pg.zero.cs 41)) (SF B w) from (Out.refl w _).alloc _)
  have S1 := Lib.hid (show B ≤ (w.alloc (.cells Pg.zero.cs 41)).heap.size from Nat.le_trans hB (by simp))
  have CH := Lib.hid (phas_any P1.out (id : Int))
  have CF := Lib.hid (find_any P1.out (id : Int))
  obtain ⟨R, hR⟩ : ∃ R, R = w.heap.size := ⟨_, rfl⟩
  rw [← hR] at R1
  have HR := Lib.hid hR
  have RB := Lib.hid (show B ≤ R by rw [hR]; exact hB)
  have hdec : (decide ((0 : Int) ≤ (id : Int)) && decide ((id : Int) < (P.pages : Int))) = true := by rw [decide_eq_true hI0, decide_eq_true hI1]; rfl
  rw [hdec] at CH
  clear hD hP ed hid hfit hB hR hI0 hI1 hdec
  unfold Pd.ptr at CH CF ⊢
  go_enter Tryz.func9, Tryz.ntmps9
  go_upto_region 1 with fail
  rw [← HR.out]
  go_wp2_with fail
  refine CH.out.mono ?_
  rintro e w2 ⟨rfl, rfl⟩
  clear CH
  generalize w.alloc (.cells Pg.zero.cs 41) = w1 at *
  go_wp2_with fail
  refine CF.out.mono ?_
  rintro e w3 ⟨rfl, hb⟩
  have R3 := Lib.hid (R1.out.kept hb); have P3 := Lib.hid (P1.out.kept hb); have D3 := Lib.hid (D1.out.kept hb)
  have O3 := Lib.hid (sf_then O1.out (.of_below hb _))
  have S3 := Lib.hid (Nat.le_trans S1.out hb.size)
  clear hb CF R1 P1 D1 O1 S1
  rcases findL_cases (id : Int) P.ss with ⟨hf, hno⟩ | ⟨j, hj, hf, hjid, -⟩
  · rw [hf]
    clear hf
    have NO := Lib.hid hno
    have CL := Lib.hid (pload_any D3.out P3.out ED.out id HID.out FIT.out)
    unfold Pd.ptr at CL
    obtain ⟨x, hx⟩ : ∃ x, x = (loadP S P.base id).1 := ⟨_, rfl⟩
    obtain ⟨er, her⟩ : ∃ er, er = (loadP S P.base id).2 := ⟨_, rfl⟩
    rw [← hx, ← her] at CL
    have HX := Lib.hid hx; have HER := Lib.hid her
    clear hno hx her
    go_wp2_with fail
    refine CL.out.mono ?_
    rintro e w4 ⟨rfl, hb⟩
    have R4 := Lib.hid ((R3.out.kept hb).alloc (.cells x.cs 41)); have P4 := Lib.hid ((P3.out.kept hb).alloc (.cells x.cs 41))
    have O4 := Lib.hid (show Out w (w4.alloc (.cells x.cs 41)) (SF B w) from (sf_then O3.out (.of_below hb _)).alloc _)
    have S4 := Lib.hid (show B ≤ (w4.alloc (.cells x.cs 41)).heap.size from Nat.le_trans S3.out (Nat.le_trans hb.size (by simp)))
    have K4 := Lib.hid (Bk.new w4 41 x.cs)
    obtain ⟨G7, hG7⟩ : ∃ G7, G7 = w4.heap.size := ⟨_, rfl⟩
    rw [← hG7] at K4
    have HG7 := Lib.hid hG7
    have NGR := Lib.hid (show G7 ≠ R from by have := (R3.out.kept hb).lt; omega)
    clear hb CL R3 P3 D3 O3 S3 hG7
    go_upto_region 8 with (refine store_page_new rfl _ _ rfl x rfl rfl ?_; rw [← HG7.out]; clear HG7; generalize w4.alloc (.cells x.cs 41) = w5 at *)
    by_cases he : er = 0
    · subst he
      have CS := Lib.hid (spare_any P4.out S4.out)
      unfold Pd.ptr at CS
      go_wp2_with fail
      refine CS.out.mono ?_
      rintro e w6 ⟨i, ok, J1, Q1, rfl, hq, hsp, eg, edp, elp, ho⟩
      have Q6 := Lib.hid hq; have SP := Lib.hid hsp; have EG := Lib.hid eg; have EDP := Lib.hid edp; have ELP := Lib.hid elp
      have O6 := Lib.hid (sf_then O4.out ho)
      have hnp : ¬ plT 41 := by unfold plT; decide
      have R6 := Lib.hid (bk_pf (sf_pf ho) R4.out hnp); have K6 := Lib.hid (bk_pf (sf_pf ho) K4.out hnp)
      clear hq hsp eg edp elp ho CS R4 K4 P4 O4 S4 hnp
      rcases hok : ok with _ | _
      · subst hok
        go_wp2_with (first | (refine load_page rfl _ rfl G7 x rfl K6.out ?_) | (refine store_page rfl _ _ rfl R x Pg.zero rfl rfl R6.out ?_))
        refine bodyPost_ret (ppage_ct rfl _ _ R x (setRow_heap _ _ _ _ _ _ R6.out) rfl) rfl ?_
        refine ⟨J1, Q1, x, 0, rfl, ?_, EG.out, EDP.out, ELP.out, .inr (.inr ⟨NO.out, ?_, rfl, Q1, i, false, SP.out, .inl ⟨rfl, rfl⟩⟩), ?_⟩
        · exact Q6.out.out (.of_grown (prow_only w6 R x.cs) fun k hk _ => hk) fun k _ hk => by injection hk with hk; subst hk; exact ⟨_, _, R6.out, by decide⟩
        · rw [HX.out]; exact Prod.ext rfl HER.out.symm
        · exact sf_new O6.out (prow_only w6 R x.cs) (Nat.le_of_eq HR.out.symm)
      · subst hok
        obtain ⟨wv, hwv⟩ : ∃ wv, wv = w6.drew := ⟨_, rfl⟩
        have HWV := Lib.hid hwv.symm
        replace Q6 := Lib.hid (show Pq wv B J1 Q1 by rw [hwv]; exact Q6.out.drew)
        replace R6 := Lib.hid (show Bk wv R 41 Pg.zero.cs by rw [hwv]; exact R6.out.drew)
        replace K6 := Lib.hid (show Bk wv G7 41 x.cs by rw [hwv]; exact K6.out.drew)
        replace O6 := Lib.hid (show Out w wv (SF B w) by rw [hwv]; exact O6.out.drew)
        clear hwv
        have hilt : i < Q1.ss.length := by rcases SP.out.lt with h | h; exact h; cases h
        have hib : i < J1.bs.length := by rw [Q6.out.bl]; exact hilt
        obtain ⟨sg, scap, esv, -, -, hc⟩ := Q6.out.at_ i hib
        have q5 : wv.cell? ⟨J1.g, 5, none⟩ = some (.slice (some ⟨sg, 0, none⟩) Q1.ss.length scap) := by rw [← esv]; exact Q6.out.cells.2.2.2.2.2.1
        obtain ⟨n, hn⟩ : ∃ n, n = Q1.ss.length := ⟨_, rfl⟩
        rw [← hn] at q5
        have hinI : (i : Int) < (n : Int) := by rw [hn]; omega
        have hin : i < n := by rw [hn]; exact hilt
        have n256 : n ≤ 256 := by rw [hn]; exact Q6.out.few
        have LAY := Lib.hid (Q6.out.lay i hilt hib ⟨(id : Int), x, 0, false, true⟩ (.inr ⟨by show (0 : Int) ≤ (id : Int); omega, by show (id : Int) < (Q1.pages : Int); rw [SP.out.pages]; have := HID.out; omega⟩) (Nat.zero_le _)
          (fun k hk hne e => absurd e (SP.out.ids NO.out (by omega) _ (List.getElem_mem hk))))
        have HIL := Lib.hid hilt
        have NBS := Lib.hid (show J1.g ≠ J1.bs[i] from Q6.out.ne_slot (List.getElem_mem hib))
        obtain ⟨sold, hkb⟩ : ∃ sold : Sl, Bk wv (J1.bs[i]) 82 sold.cs := ⟨_, Q6.out.sl i hib hilt⟩
        have KB := Lib.hid hkb
        clear hkb
        have BGE := Lib.hid (Q6.out.bb _ (List.getElem_mem hib))
        have NSG := Lib.hid (show sg ≠ J1.bs[i] from by
          obtain ⟨-, -, c, hcc⟩ := owns_block Q6.out.row (k := sg) (by rw [esv]; rfl)
          exact Bk.ne_ hcc KB.out (by decide))
        obtain ⟨bi, hbi⟩ : ∃ bi, bi = J1.bs[i] := ⟨_, rfl⟩
        rw [← hbi] at LAY NBS KB hc BGE NSG
        have SF1 := Lib.hid (show wv.cell? ⟨J1.g, 5, none⟩ = some (.slice (some ⟨sg, 0, none⟩) n scap) ∧ wv.cell? ⟨sg, i, none⟩ = some (.pointer (some ⟨bi, 0, none⟩)) ∧ Bk wv G7 41 x.cs from ⟨q5, hc, K6.out⟩)
        have NKB := Lib.hid (show G7 ≠ bi from Bk.ne_ K6.out KB.out (by decide))
        have NRB := Lib.hid (show R ≠ bi from Bk.ne_ R6.out KB.out (by decide))
        have SF2 := Lib.hid (show (wv.setRow bi (Sl.mk (id : Int) x 0 false true).cs).cell? ⟨J1.g, 5, none⟩ = some (.slice (some ⟨sg, 0, none⟩) n scap) ∧ (wv.setRow bi (Sl.mk (id : Int) x 0 false true).cs).cell? ⟨sg, i, none⟩ = some (.pointer (some ⟨bi, 0, none⟩)) ∧ Bk (wv.setRow bi (Sl.mk (id : Int) x 0 false true).cs) G7 41 x.cs from
          ⟨by rw [setRow_cell _ _ _ _ NBS.out]; exact q5, by rw [setRow_cell _ _ _ _ NSG.out]; exact hc, row_far K6.out NKB.out⟩)
        have R7 := Lib.hid (row_far (cs := (Sl.mk (id : Int) x 0 false true).cs) R6.out NRB.out)
        have K7 := Lib.hid (row_far (cs := (Sl.mk (id : Int) x 0 false true).cs) K6.out NKB.out)
        have O7 := Lib.hid (sf_then O6.out (sf_grown (prow_only wv bi (Sl.mk (id : Int) x 0 false true).cs) KB.out (.inr (.inl rfl)) BGE.out))
        rw [← EG.out]
        clear hc q5 hib hn hilt hbi esv R6 K6 Q6 O6
        go_upto_region 12 with fail
        go_wp2_with fail
        refine wp_region_held (S := fun w' => w'.cell? ⟨J1.g, 5, none⟩ = some (.slice (some ⟨sg, 0, none⟩) n scap) ∧ w'.cell? ⟨sg, i, none⟩ = some (.pointer (some ⟨bi, 0, none⟩)) ∧ Bk w' G7 41 x.cs) (by kernel_rfl) ?_
        show wpAnyH _ _ _ _ _ _ _ _ w6.drew
        rw [HWV.out]
        refine pk_take (fuel := 11) (i := 0) 56 rfl rfl (by kernel_rfl) (by kernel_rfl) (by kernel_rfl) (fun _ _ _ h => h) (pk_move _ rfl (by kernel_rfl)) SF1.out ?_
        simp only [Act.put, Act.eval, List.setIfInBounds_toArray, List.set_cons_succ, List.set_cons_zero]
        refine pk_take (fuel := 10) (i := 1) (v := .pointer (some ⟨J1.g, 0, none⟩)) 57 rfl rfl (by kernel_rfl) (by kernel_rfl) (by kernel_rfl) (fun _ _ _ h => h) (by refine .inl ⟨by kernel_rfl, fun wx hx => ?_⟩; obtain ⟨q5, qj, -⟩ := hx; unfold execOp; go_simp) SF1.out ?_
        simp only [Act.put, Act.eval, List.setIfInBounds_toArray, List.set_cons_succ, List.set_cons_zero]
        refine pk_take (fuel := 9) (i := 2) (v := .pointer (some ⟨J1.g, 5, none⟩)) 58 rfl rfl (by kernel_rfl) (by kernel_rfl) (by kernel_rfl) (fun _ _ _ h => h) (by refine .inl ⟨by kernel_rfl, fun wx hx => ?_⟩; obtain ⟨q5, qj, -⟩ := hx; unfold execOp; go_simp) SF1.out ?_
        simp only [Act.put, Act.eval, List.setIfInBounds_toArray, List.set_cons_succ, List.set_cons_zero]
        refine pk_take (fuel := 8) (i := 3) (v := .slice (some ⟨sg, 0, none⟩) n scap) 59 rfl rfl (by kernel_rfl) (by kernel_rfl) (by kernel_rfl) (fun _ _ _ h => h) (by refine .inl ⟨by kernel_rfl, fun wx hx => ?_⟩; obtain ⟨q5, qj, -⟩ := hx; unfold execOp; go_simp) SF1.out ?_
        simp only [Act.put, Act.eval, List.setIfInBounds_toArray, List.set_cons_succ, List.set_cons_zero]
        refine pk_take (fuel := 7) (i := 4) 60 rfl rfl (by kernel_rfl) (by kernel_rfl) (by kernel_rfl) (fun _ _ _ h => h) (pk_move _ rfl (by kernel_rfl)) SF1.out ?_
        simp only [Act.put, Act.eval, List.setIfInBounds_toArray, List.set_cons_succ, List.set_cons_zero]
        refine pk_take (fuel := 6) (i := 5) (v := .pointer (some ⟨sg, i, none⟩)) 61 rfl rfl (by kernel_rfl) (by kernel_rfl) (by kernel_rfl) (fun _ _ _ h => h) (by refine .inl ⟨by kernel_rfl, fun wx hx => ?_⟩; obtain ⟨q5, qj, -⟩ := hx; unfold execOp; go_simp) SF1.out ?_
        simp only [Act.put, Act.eval, List.setIfInBounds_toArray, List.set_cons_succ, List.set_cons_zero]
        refine pk_take (fuel := 5) (i := 6) (v := .pointer (some ⟨bi, 0, none⟩)) 62 rfl rfl (by kernel_rfl) (by kernel_rfl) (by kernel_rfl) (fun _ _ _ h => h) (by refine .inl ⟨by kernel_rfl, fun wx hx => ?_⟩; obtain ⟨q5, qj, -⟩ := hx; unfold execOp; go_simp) SF1.out ?_
        simp only [Act.put, Act.eval, List.setIfInBounds_toArray, List.set_cons_succ, List.set_cons_zero]
        refine pk_take (fuel := 4) (i := 7) 63 rfl rfl (by kernel_rfl) (by kernel_rfl) (by kernel_rfl) (fun _ _ _ h => h) (pk_move _ rfl (by kernel_rfl)) SF1.out ?_
        simp only [Act.put, Act.eval, List.setIfInBounds_toArray, List.set_cons_succ, List.set_cons_zero]
        refine pk_take (fuel := 3) (i := 8) (v := .agg x.cs) 64 rfl rfl (by kernel_rfl) (by kernel_rfl) (by kernel_rfl) (fun _ _ _ h => h) (pk_page _ rfl (by kernel_rfl) G7 x rfl (fun w h => h.2.2)) SF1.out ?_
        simp only [Act.put, Act.eval, List.setIfInBounds_toArray, List.set_cons_succ, List.set_cons_zero]
        refine pk_take (fuel := 2) (i := 9) (v := .agg (Sl.mk (id : Int) x 0 false true).cs) 65 rfl rfl (by kernel_rfl) (by kernel_rfl) (by kernel_rfl) (fun _ _ _ h => h) (by refine .inl ⟨by kernel_rfl, fun wx hx => ?_⟩; unfold execOp; kernel_rfl) SF1.out ?_
        simp only [Act.put, Act.eval, List.setIfInBounds_toArray, List.set_cons_succ, List.set_cons_zero]
        refine pk_take (fuel := 1) (i := 10) (v := .pointer (some ⟨bi, 0, none⟩)) 66 rfl rfl (by kernel_rfl) (by kernel_rfl) (by kernel_rfl) (fun _ _ _ h => h) (by refine .inl ⟨by kernel_rfl, fun wx hx => ?_⟩; obtain ⟨q5, qj, -⟩ := hx; unfold execOp; go_simp) SF1.out ?_
        simp only [Act.put, Act.eval, List.setIfInBounds_toArray, List.set_cons_succ, List.set_cons_zero]
        refine pk_ready (fuel := 0) 11 (by kernel_rfl) ?_
        refine pk_store rfl _ _ rfl rfl (by kernel_rfl) bi (Sl.mk (id : Int) x 0 false true) sold rfl rfl KB.out ⟨SF2.out, ?_⟩
        refine wpAnyH_done (by kernel_rfl) ?_ _
        (try simp only [Act.put, Act.eval, List.setIfInBounds_toArray, List.set_cons_succ, List.set_cons_zero])
        generalize wv.setRow bi (Sl.mk (id : Int) x 0 false true).cs = w7 at *
        clear SF1 SF2 KB
        go_wp2_with (first | (refine load_page rfl _ rfl G7 x rfl K7.out ?_) | (refine store_page rfl _ _ rfl R x Pg.zero rfl rfl R7.out ?_))
        refine bodyPost_ret (ppage_ct rfl _ _ R x (setRow_heap _ _ _ _ _ _ R7.out) rfl) rfl ?_
        refine ⟨J1, _, x, 0, rfl, ?_, EG.out, EDP.out, ELP.out, .inr (.inr ⟨NO.out, ?_, rfl, Q1, i, true, SP.out, .inr ⟨rfl, HIL.out, rfl⟩⟩), ?_⟩
        · exact LAY.out.out (.of_grown (prow_only w7 R x.cs) fun k hk _ => hk) fun k _ hk => by injection hk with hk; subst hk; exact ⟨_, _, R7.out, by decide⟩
        · rw [HX.out]; exact Prod.ext rfl HER.out.symm
        · exact sf_new O7.out (prow_only w7 R x.cs) (Nat.le_of_eq HR.out.symm)
    · have hne : (er != 0) = true := by simp [he]
      have hne' : (er == 0) = false := by simp [he]
      have HE := Lib.hid he
      clear he
      go_wp2_with (first | (refine pbuild0 rfl rfl ?_) | (refine store_page rfl _ _ rfl R Pg.zero Pg.zero rfl rfl R4.out ?_))
      refine bodyPost_ret (ppage_ct rfl _ _ R Pg.zero (setRow_heap _ _ _ _ _ _ R4.out) rfl) rfl ?_
      refine ⟨J, P, Pg.zero, er, rfl, ?_, rfl, rfl, rfl, .inr (.inl ⟨NO.out, by rw [← HER.out]; exact HE.out, rfl, rfl, HER.out⟩), ?_⟩
      · exact P4.out.out (.of_grown (prow_only w5 R Pg.zero.cs) fun k hk _ => hk) fun k _ hk => by injection hk with hk; subst hk; exact ⟨_, _, R4.out, by decide⟩
      · exact sf_new O4.out (prow_only w5 R Pg.zero.cs) (Nat.le_of_eq HR.out.symm)
  · rw [hf]
    have hjb : j < J.bs.length := by rw [P3.out.bl]; exact hj
    obtain ⟨sg, scap, esv, -, -, hc⟩ := P3.out.at_ j hjb
    have q5 : w3.cell? ⟨J.g, 5, none⟩ = some (.slice (some ⟨sg, 0, none⟩) P.ss.length scap) := by rw [← esv]; exact P3.out.cells.2.2.2.2.2.1
    have PU := Lib.hid (P3.out.used j hj hjb true)
    have q5' := PU.out.cells.2.2.2.2.2.1
    obtain ⟨sg', scap', esv', -, -, hc'⟩ := PU.out.at_ j hjb
    rw [esv] at q5' esv'
    obtain ⟨rfl, rfl⟩ : sg = sg' ∧ scap = scap' := by
      injection esv' with e1 _ e3
      injection e1 with e1
      injection e1 with e1
      exact ⟨e1, e3⟩
    have KS := Lib.hid (P3.out.sl j hjb hj)
    have KU := Lib.hid ((P3.out.sl j hjb hj).set 19 (.bool true))
    have BGE := Lib.hid (P3.out.bb _ (List.getElem_mem hjb))
    have R4 := Lib.hid (R3.out.far (p := ⟨J.bs[j], 19, none⟩) (Bk.ne_ R3.out KS.out (by decide)) (.bool true))
    have k19 := KS.out.cell 19
    have f19 := KS.out.fz 19
    obtain ⟨n, hn⟩ : ∃ n, n = P.ss.length := ⟨_, rfl⟩
    have HN := Lib.hid hn
    rw [← hn] at q5 q5'
    have hjn : j < n := by rw [hn]; exact hj
    have n256 : n ≤ 256 := by rw [hn]; exact P3.out.few
    have O4 := Lib.hid (sf_then O3.out (sf_grown (only_set ⟨rfl, rfl, rfl, Nat.le_refl _, fun _ _ _ => rfl⟩ 19 (.bool true)) KS.out (.inr (.inl rfl)) BGE.out))
    have HJ := Lib.hid hj; have HJID := Lib.hid hjid
    have KU2 := Lib.hid (show Bk (w3.setCell ⟨J.bs[j], 19, none⟩ (.bool true)) (J.bs[j]) 82 ({ P.ss[j] with us := true } : Sl).cs from KU.out)
    clear hf esv esv' KU hjid hn
    obtain ⟨bj, hbj⟩ : ∃ bj, bj = J.bs[j] := ⟨_, rfl⟩
    rw [← hbj] at hc hc' KU2 R4 O4 PU q5' k19 f19
    have HBJ := Lib.hid hbj
    clear hbj
    have k19' : w3.cell? ⟨bj, 19, none⟩ = some (.bool (P.ss[j]).us) := k19
    clear k19
    have TT := Lib.hid (show ({ P.ss[j] with us := true } : Sl).p = (P.ss[j]).p from rfl)
    obtain ⟨su, hsu⟩ : ∃ su : Sl, su = { P.ss[j] with us := true } := ⟨_, rfl⟩
    rw [← hsu] at KU2 TT
    clear hsu
    obtain ⟨sus, hsus⟩ : ∃ b, b = (P.ss[j]).us := ⟨_, rfl⟩
    rw [← hsus] at k19'
    clear hsus
    go_upto_region 6 with fail
    generalize w3.setCell ⟨bj, 19, none⟩ (.bool true) = w4 at *
    clear q5 hc k19' f19 KS
    go_wp2_with (first | (refine load_slp rfl _ rfl bj su rfl KU2.out ?_) | (refine store_page rfl _ _ rfl R su.p Pg.zero rfl rfl R4.out ?_))
    refine bodyPost_ret (ppage_ct rfl _ _ R su.p (setRow_heap _ _ _ _ _ _ R4.out) rfl) rfl ?_
    refine ⟨J, _, su.p, 0, rfl, ?_, rfl, rfl, rfl, .inl ⟨j, HJ.out, HJID.out, rfl, TT.out, rfl⟩, ?_⟩
    · exact PU.out.out (.of_grown (prow_only w4 R su.p.cs) fun k hk _ => hk) fun k _ hk => by injection hk with hk; subst hk; exact ⟨_, _, R4.out, by decide⟩
    · exact sf_new O4.out (prow_only w4 R su.p.cs) (Nat.le_of_eq HR.out.symm)
end Go.Proofs.YtgafajbdmegfgaaGreat
