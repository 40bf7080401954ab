/- Layer 12: the document's pages. PoolAgain: a pool over the elder one's device, and a page spoiled. Layer 12: a volume under way beside numbers of the law's own; what the device has, read by the law. PoolRuns. -/
import Derived.Test.YtgafajbdmegfgaaPolFrLib
import Derived.Test.YtgafajbdmegfgaaPgRRight
import Derived.Laws.IdiomStrings
import Derived.Test.YtgafajbdmegfgaaFrameRef
import Derived.Test.YtgafajbdmegfgaaPgRDec
set_option linter.unusedVariables false
set_option linter.unusedSimpArgs false
namespace Go.Proofs.Ytgafajbdmegfgaa
open Go.RowKit

theorem zeroPg (n : Nat) : madeCells Pg.zero.cs (n * 16) = (flatPg (List.replicate n Pg.zero)).toArray := by
  apply Array.ext_getElem?
  intro j
  have hl := flat_len (List.replicate n Pg.zero)
  rw [List.length_replicate] at hl
  by_cases hj : j < n * 16
  · obtain ⟨q, r, hr, rfl⟩ : ∃ q r, r < 16 ∧ j = q * 16 + r := ⟨j / 16, j % 16, Nat.mod_lt _ (by omega), by omega⟩
    have hf : (flatPg (List.replicate n Pg.zero)).toArray[q * 16 + r]? = Pg.zero.cs[r]? := by
      rw [List.getElem?_toArray]
      exact flat_get _ q Pg.zero (by rw [List.getElem?_replicate, if_pos (by omega)]) r hr
    rw [hf]
    have h0 : Pg.zero.cs.size = 16 := rfl
    have h1 : (q * 16 + r) % 16 = r := by omega
    unfold madeCells
    rw [Array.getElem?_map, Array.getElem?_eq_getElem (by simpa using hj)]
    simp only [Array.getElem_range, Option.map_some, h0, h1]
    rw [Array.getElem?_eq_getElem (by omega), getElem!_pos _ _ (by omega)]
  · rw [Array.getElem?_eq_none (by rw [size_madeCells]; omega), Array.getElem?_eq_none (by simp; omega)]
def izero (l : List Nat) : Array Value := (l.map fun k : Nat => Value.int .i64 (k : Int)).toArray
theorem zeroIn (n : Nat) : madeCells #[Value.int .i64 0] n = izero (List.replicate n 0) := by
  unfold madeCells izero
  apply Array.ext_getElem?
  intro j
  by_cases h : j < n
  · simp [h, Nat.mod_one]
  · rw [Array.getElem?_eq_none (by simp; omega), Array.getElem?_eq_none (by simp; omega)]
theorem pinfo_int2 : (Try.prog.info? 3).map (fun i => (i.zero, i.size, i.bytes)) = some (some (.int .i64 0), 1, 8) := by kernel_rfl
/-- The document's pages in memory. -/
structure Rf (w : World) (B R NB Z n : Nat) (ps : List Pg) (st : List Nat) : Prop where
  box : Bk w R 77 #[.slice (some ⟨NB, 0, none⟩) n n, .slice (some ⟨Z, 0, none⟩) n n]
  now : PRow w NB ps
  stp : Bk w Z 3 (izero st)
  pl : ps.length = n
  sl : st.length = n
  bb : B ≤ R ∧ B ≤ NB ∧ B ≤ Z
theorem Rf.kept {w w' : World} {B R NB Z n : Nat} {ps : List Pg} {st : List Nat} (h : Rf w B R NB Z n ps st) (hb : Below w.heap.size w w') : Rf w' B R NB Z n ps st := ⟨h.box.kept hb, h.now.kept hb, h.stp.kept hb, h.pl, h.sl, h.bb⟩
theorem Rf.alloc {w : World} {B R NB Z n : Nat} {ps : List Pg} {st : List Nat} (h : Rf w B R NB Z n ps st) (o : Obj) : Rf (w.alloc o) B R NB Z n ps st := h.kept ((Below.refl w.heap.size w).alloc (Nat.le_refl _) o)
theorem izero_get (st : List Nat) (k : Nat) (hk : k < st.length) : (izero st)[k]? = some (.int .i64 ((st[k] : Nat) : Int)) := by
  unfold izero
  rw [List.getElem?_toArray, List.getElem?_map, List.getElem?_eq_getElem hk]
  rfl
theorem izero_set (st : List Nat) (k x : Nat) : (izero st).setIfInBounds k (.int .i64 (x : Int)) = izero (st.set k x) := by
  unfold izero
  simp [List.map_set]
set_option maxRecDepth 100000 in
set_option maxHeartbeats 4000000 in
theorem rf_new (n : Nat) (w : World) (h1 : 1 ≤ n) (h2 : n ≤ 1024) :
    Calls Try.prog 11 #[.int .i64 (n : Int)] w fun e w' => ∃ R NB Z, e = .returned (.pointer (some ⟨R, 0, none⟩)) ∧ Rf w' w.heap.size R NB Z n (List.replicate n Pg.zero) (List.replicate n 0) ∧ Below w.heap.size w w' := by
  obtain ⟨i0, hi, hz0, hz1, hz2⟩ := info_parts pinfo_page
  obtain ⟨i1, hi', hy0, hy1, hy2⟩ := info_parts pinfo_int2
  have hmk := fun wx => run_make (P := Try.prog) wx 56 40 i0 (.agg Pg.zero.cs) Try.underlying56 hi hz0 .i64 .i64 (n : Int) (n : Int) (by omega) (by omega) (by rw [hz2]; omega) (by omega)
  have hmi := fun wx => run_make (P := Try.prog) wx 52 3 i1 (.int .i64 0) Try.underlying52 hi' hy0 .i64 .i64 (n : Int) (n : Int) (by omega) (by omega) (by rw [hy2]; omega) (by omega)
  simp only [hz1, Value.cells, Int.toNat_natCast, zeroPg] at hmk
  simp only [hy1, Value.cells, Int.toNat_natCast, Nat.mul_one, zeroIn] at hmi
  clear hi hz0 hz1 hz2 hi' hy0 hy1 hy2
  --@Vnew
  go_enter Try.func11, Try.ntmps11
  go_wp2_with fail
  go_region
  all_goals
    go_wp2
    go_ret
    first
      | exact ⟨w.heap.size + 1 + 1, w.heap.size, w.heap.size + 1, rfl, ⟨Bk.new3 w.drew _ _ _ _, ((Bk.new w.drew _ _).alloc _).alloc _, (Bk.new2 w.drew _ _ _).alloc _, List.length_replicate, List.length_replicate, by omega, by omega, by omega⟩, ((((Below.refl _ _).drew.alloc (Nat.le_refl _) _).alloc (by simp) _).alloc (by simp; omega) _)⟩
      | exact ⟨w.heap.size + 1 + 1, w.heap.size + 1, w.heap.size, rfl, ⟨Bk.new3 w.drew _ _ _ _, (Bk.new2 w.drew _ _ _).alloc _, ((Bk.new w.drew _ _).alloc _).alloc _, List.length_replicate, List.length_replicate, by omega, by omega, by omega⟩, ((((Below.refl _ _).drew.alloc (Nat.le_refl _) _).alloc (by simp) _).alloc (by simp; omega) _)⟩
      | (trace_state; fail)
def RfG (n : Nat) (ps : List Pg) (id : Int) (e : Ending) : Prop := ((∃ (hk : id.toNat < ps.length), 0 ≤ id ∧ id < (n : Int) ∧ e = .returned (.tuple #[.agg (ps[id.toNat]).cs, .int .i64 0])) ∨ (¬ (0 ≤ id ∧ id < (n : Int)) ∧ e = .returned (.tuple #[.agg Pg.zero.cs, .int .i64 1])))
set_option maxRecDepth 100000 in
set_option maxHeartbeats 4000000 in
theorem rf_get {w : World} {B R NB Z n : Nat} {ps : List Pg} {st : List Nat} (h : Rf w B R NB Z n ps st) (hn : n ≤ 1024) (id : Int) :
    Calls Try.prog 13 #[.pointer (some ⟨R, 0, none⟩), .int .i64 id] w fun e w' => RfG n ps id e ∧ Below w.heap.size w w' := by
  have H1 := Lib.hid (h.alloc (.cells Pg.zero.cs 40))
  have R1 := Lib.hid (Bk.new w 40 Pg.zero.cs)
  have B1 := Lib.hid ((Below.refl w.heap.size w).alloc (Nat.le_refl _) (.cells Pg.zero.cs 40))
  obtain ⟨G, hG⟩ : ∃ G, G = w.heap.size := ⟨_, rfl⟩
  rw [← hG] at R1
  have HG := Lib.hid hG.symm
  have PL := Lib.hid h.pl
  have c0 : (w.alloc (.cells Pg.zero.cs 40)).cell? ⟨R, 0, none⟩ = some (.slice (some ⟨NB, 0, none⟩) n n) := H1.out.box.cell 0
  clear h hG
  --@Vget
  go_enter Try.func13, Try.ntmps13
  go_upto_region 1 with fail
  change Code.wp _ _ _ _ (w.alloc (.cells Pg.zero.cs 40))
  rw [HG.out]
  generalize w.alloc (.cells Pg.zero.cs 40) = w1 at *
  by_cases h0 : id < 0
  · go_wp2_with (first | (refine pbuild0 rfl rfl ?_) | (refine store_page rfl _ _ rfl G Pg.zero Pg.zero rfl rfl R1.out ?_))
    refine bodyPost_ret (ppage_ct rfl _ _ G Pg.zero (setRow_heap _ _ _ _ _ _ R1.out) rfl) rfl ?_
    exact ⟨.inr ⟨by omega, rfl⟩, below_setRow B1.out (Nat.le_of_eq HG.out) _⟩
  by_cases h1 : id < (n : Int)
  · obtain ⟨k, rfl⟩ : ∃ k : Nat, id = (k : Int) := ⟨id.toNat, by omega⟩
    have hkn : k < n := by omega
    have hkp : k < ps.length := by rw [PL.out]; exact hkn
    have h1' : ¬ (n : Int) ≤ (k : Int) := by omega
    obtain ⟨x, hx⟩ : ∃ x, ps[k]? = some x := ⟨_, List.getElem?_eq_getElem hkp⟩
    have HX := Lib.hid hx
    clear hx
    go_wp2_with (first | (refine load_page_at rfl _ rfl NB ps k x HX.out rfl H1.out.now ?_) | (refine store_page rfl _ _ rfl G x Pg.zero rfl rfl R1.out ?_))
    refine bodyPost_ret (ppage_ct rfl _ _ G x (setRow_heap _ _ _ _ _ _ R1.out) rfl) rfl ?_
    refine ⟨.inl ⟨by rw [Int.toNat_natCast]; exact hkp, by omega, h1, ?_⟩, below_setRow B1.out (Nat.le_of_eq HG.out) _⟩
    have e : ps[(k : Int).toNat]'(by rw [Int.toNat_natCast]; exact hkp) = x := by
      have := HX.out
      rw [List.getElem?_eq_getElem hkp] at this
      injection this with this
    rw [e]
    rfl
  · have h1' : (n : Int) ≤ id := by omega
    go_wp2_with (first | (refine pbuild0 rfl rfl ?_) | (refine store_page rfl _ _ rfl G Pg.zero Pg.zero rfl rfl R1.out ?_))
    refine bodyPost_ret (ppage_ct rfl _ _ G Pg.zero (setRow_heap _ _ _ _ _ _ R1.out) rfl) rfl ?_
    exact ⟨.inr ⟨by omega, rfl⟩, below_setRow B1.out (Nat.le_of_eq HG.out) _⟩
section
variable {ops : Array Oper} {Q : Exit → Act → World → Prop} {K : Act → World → Prop} {i : Nat} {o : Oper} {a : Act} {w : World}
theorem pk_store_at (hi : ops[i]? = some o) (x y : Operand) (ho : o.op = .store 40 x y) (hd : o.dst = none) (hw : Region.wanted o (yielded ops a.tmps) = true) (g : Nat) (ps : List Pg) (k : Nat) (p : Pg) (hk : k < ps.length)
    (hx : a.eval x = .pointer (some ⟨g, k * 16, none⟩)) (hy : a.eval y = .agg p.cs) (hr : PRow w g ps) (h : PRow (w.setCells g (k * 16) p.cs.toList) g (ps.set k p) → K a (w.setCells g (k * 16) p.cs.toList)) : wpOp Try.prog ops Q i K a w :=
  pk_wp hi hw (wp_store_mid 40 x y ho g (k * 16) p.cs hx hy (hr.there hk) (by rw [show p.cs.size = 16 from rfl]; kernel_rfl) (by unfold Pg.cs; simp [Value.oneCell']) (by rw [hd]; exact h (hr.set k p hk)))
end
/-- What Put touches. -/
def RfP (NB Z k : Nat) : Prop := k = NB ∨ k = Z
theorem Rf.lay {w : World} {B R NB Z n : Nat} {ps : List Pg} {st : List Nat} (h : Rf w B R NB Z n ps st) (k : Nat) (x : Pg) :
    Bk (w.setCells NB (k * 16) x.cs.toList) R 77 #[.slice (some ⟨NB, 0, none⟩) n n, .slice (some ⟨Z, 0, none⟩) n n] ∧ Bk (w.setCells NB (k * 16) x.cs.toList) Z 3 (izero st) ∧ Out w (w.setCells NB (k * 16) x.cs.toList) (RfP NB Z) := by
  have n1 : NB ≠ R := Bk.ne_ h.now h.box (by decide)
  have n2 : NB ≠ Z := Bk.ne_ h.now h.stp (by decide)
  have hg := setCells_only w NB (k * 16) x.cs.toList
  generalize w.setCells NB (k * 16) x.cs.toList = w2 at *
  exact ⟨h.box.grown hg fun e => n1 (by injection e with e; exact e.symm), h.stp.grown hg fun e => n2 (by injection e with e; exact e.symm), .of_grown hg fun q hq _ => by injection hq with hq; exact .inl hq.symm⟩
theorem prow_far {w : World} {G NB : Nat} {t : TypeId} {cs : Array Value} (h : Bk w G t cs) (hne : G ≠ NB) (k : Nat) (x : Pg) : Bk (w.setCells NB (k * 16) x.cs.toList) G t cs := by
  have hg := setCells_only w NB (k * 16) x.cs.toList
  generalize w.setCells NB (k * 16) x.cs.toList = w2 at *
  exact h.grown hg fun e => hne (by injection e)
set_option maxRecDepth 100000 in
set_option maxHeartbeats 8000000 in
theorem rf_put {w : World} {B R NB Z n : Nat} {ps : List Pg} {st : List Nat} (h : Rf w B R NB Z n ps st) (hn : n ≤ 1024) (id : Int) (x : Pg) (sx : Nat) :
    Calls Try.prog 16 #[.pointer (some ⟨R, 0, none⟩), .int .i64 id, .agg x.cs, .int .i64 (sx : Int)] w fun e w' =>
      (putGood n id x ∧ e = .returned (.int .i64 0) ∧ Rf w' B R NB Z n (ps.set id.toNat x) (st.set id.toNat sx) ∨ ¬ putGood n id x ∧ e = .returned (.int .i64 1) ∧ Rf w' B R NB Z n ps st) ∧ Out w w' (RfP NB Z) := by
  have H1 := Lib.hid (h.alloc (.cells x.cs 40))
  have K1 := Lib.hid (Bk.new w 40 x.cs)
  have B1 := Lib.hid (show Out w (w.alloc (.cells x.cs 40)) (RfP NB Z) from .of_below ((Below.refl w.heap.size w).alloc (Nat.le_refl _) _) _)
  have GN := Lib.hid (show w.heap.size ≠ NB ∧ w.heap.size ≠ Z ∧ w.heap.size ≠ R from ⟨fun e => by have := PRow.lt h.now; omega, fun e => by have := h.stp.lt; omega, fun e => by have := h.box.lt; omega⟩)
  have NE := Lib.hid (show NB ≠ R ∧ Z ≠ R ∧ NB ≠ Z from ⟨Bk.ne_ h.now h.box (by decide), Bk.ne_ h.stp h.box (by decide), Bk.ne_ h.now h.stp (by decide)⟩)
  obtain ⟨G, hG⟩ : ∃ G, G = w.heap.size := ⟨_, rfl⟩
  rw [← hG] at K1 GN
  have HG := Lib.hid hG.symm
  have PL := Lib.hid h.pl; have SL := Lib.hid h.sl
  have c0 : (w.alloc (.cells x.cs 40)).cell? ⟨R, 0, none⟩ = some (.slice (some ⟨NB, 0, none⟩) n n) := H1.out.box.cell 0
  have CR := Lib.hid (fun w' => show Calls Try.prog 36 #[.agg x.cs] w' (fun e w'' => e = .returned (.bool (decide x.ok)) ∧ Below w'.heap.size w' w'') from rright_any x w')
  clear h hG
  --@Vput
  go_enter Try.func16, Try.ntmps16
  go_upto_region 1 with fail
  rw [HG.out]
  generalize w.alloc (.cells x.cs 40) = w1 at *
  by_cases h0 : id < 0
  · --@Vp1
    go_wp2
    go_ret
    exact ⟨.inr ⟨fun hg => by have := hg.1; omega, rfl, H1.out⟩, B1.out⟩
  by_cases h1 : id < (n : Int)
  · obtain ⟨k, rfl⟩ : ∃ k : Nat, id = (k : Int) := ⟨id.toNat, by omega⟩
    have h1' : ¬ (n : Int) ≤ (k : Int) := by omega
    have hsx : ¬ (sx : Int) < 0 := by omega
    go_wp2_with (refine load_page_if _ rfl (by first | rfl | kernel_rfl) G x rfl K1.out ?_)
    refine (CR.out _).mono ?_
    rintro e w2 ⟨rfl, hb⟩
    have H2 := Lib.hid (H1.out.kept hb); have K2 := Lib.hid (K1.out.kept hb)
    have B2 := Lib.hid (show Out w w2 (RfP NB Z) from B1.out.trans (.of_below hb _))
    clear hb CR H1 K1 B1 c0
    --@Vp2
    by_cases hok : x.ok
    · --@Vp3
      rw [decide_eq_true hok]
      have HOK := Lib.hid hok
      have HK := Lib.hid h1
      have hkn : (k : Int) < (n : Int) := h1
      have hk0 : ¬ (k : Int) < 0 := by omega
      have hk6 : (k : Int).toNat = k := by omega
      clear h0 h1 h1' hsx hok
      go_upto_region 3 with fail
      obtain ⟨wv, hwv⟩ : ∃ wv, wv = w2.drew := ⟨_, rfl⟩
      have HWV := Lib.hid hwv.symm
      have HV := Lib.hid (show Rf wv B R NB Z n ps st from by rw [hwv]; exact ⟨H2.out.box, H2.out.now, H2.out.stp, H2.out.pl, H2.out.sl, H2.out.bb⟩)
      have BV := Lib.hid (show Out w wv (RfP NB Z) from by rw [hwv]; exact B2.out.drew)
      have SF := Lib.hid (show wv.cell? ⟨R, 0, none⟩ = some (.slice (some ⟨NB, 0, none⟩) n n) ∧ Bk wv G 40 x.cs from ⟨HV.out.box.cell 0, by rw [hwv]; exact K2.out.drew⟩)
      clear hwv H2 K2 B2
      --@Vp4
      refine wp_region_held (S := fun w' => w'.cell? ⟨R, 0, none⟩ = some (.slice (some ⟨NB, 0, none⟩) n n) ∧ Bk w' G 40 x.cs) (by kernel_rfl) ?_
      show wpAnyH _ _ _ _ _ _ _ _ w2.drew
      rw [HWV.out]
      refine pk_take (fuel := 7) (i := 0) 29 rfl rfl (by kernel_rfl) (by kernel_rfl) (by kernel_rfl) (fun _ _ _ h => h) (pk_move _ rfl (by kernel_rfl)) SF.out ?_
      simp only [Act.put, Act.eval, List.setIfInBounds_toArray, List.set_cons_succ, List.set_cons_zero]
      refine pk_take (fuel := 6) (i := 1) (v := .pointer (some ⟨R, 0, none⟩)) 30 rfl rfl (by kernel_rfl) (by kernel_rfl) (by kernel_rfl) (fun _ _ _ h => h) (by refine .inl ⟨by kernel_rfl, fun wx hx => ?_⟩; obtain ⟨x1, x2⟩ := hx; unfold execOp; go_simp) SF.out ?_
      simp only [Act.put, Act.eval, List.setIfInBounds_toArray, List.set_cons_succ, List.set_cons_zero]
      refine pk_take (fuel := 5) (i := 2) (v := .pointer (some ⟨R, 0, none⟩)) 31 rfl rfl (by kernel_rfl) (by kernel_rfl) (by kernel_rfl) (fun _ _ _ h => h) (by refine .inl ⟨by kernel_rfl, fun wx hx => ?_⟩; obtain ⟨x1, x2⟩ := hx; unfold execOp; go_simp) SF.out ?_
      simp only [Act.put, Act.eval, List.setIfInBounds_toArray, List.set_cons_succ, List.set_cons_zero]
      refine pk_take (fuel := 4) (i := 3) (v := .slice (some ⟨NB, 0, none⟩) n n) 32 rfl rfl (by kernel_rfl) (by kernel_rfl) (by kernel_rfl) (fun _ _ _ h => h) (by refine .inl ⟨by kernel_rfl, fun wx hx => ?_⟩; obtain ⟨x1, x2⟩ := hx; unfold execOp; go_simp) SF.out ?_
      simp only [Act.put, Act.eval, List.setIfInBounds_toArray, List.set_cons_succ, List.set_cons_zero]
      refine pk_take (fuel := 3) (i := 4) 33 rfl rfl (by kernel_rfl) (by kernel_rfl) (by kernel_rfl) (fun _ _ _ h => h) (pk_move _ rfl (by kernel_rfl)) SF.out ?_
      simp only [Act.put, Act.eval, List.setIfInBounds_toArray, List.set_cons_succ, List.set_cons_zero]
      refine pk_take (fuel := 2) (i := 5) (v := .agg x.cs) 34 rfl rfl (by kernel_rfl) (by kernel_rfl) (by kernel_rfl) (fun _ _ _ h => h) (pk_page _ rfl (by kernel_rfl) G x rfl (fun w h => h.2)) SF.out ?_
      simp only [Act.put, Act.eval, List.setIfInBounds_toArray, List.set_cons_succ, List.set_cons_zero]
      refine pk_take (fuel := 1) (i := 6) (v := .pointer (some ⟨NB, k * 16, none⟩)) 35 rfl rfl (by kernel_rfl) (by kernel_rfl) (by kernel_rfl) (fun _ _ _ h => h) (by refine .inl ⟨by kernel_rfl, fun wx hx => ?_⟩; obtain ⟨x1, x2⟩ := hx; unfold execOp; go_simp) SF.out ?_
      simp only [Act.put, Act.eval, List.setIfInBounds_toArray, List.set_cons_succ, List.set_cons_zero]
      --@Vp5
      refine pk_ready (fuel := 0) 7 (by kernel_rfl) ?_
      refine pk_store_at rfl _ _ rfl rfl (by kernel_rfl) NB ps k x (by rw [PL.out]; have := HK.out; omega) rfl rfl HV.out.now fun hpr => ?_
      have LY := Lib.hid (HV.out.lay k x)
      have GK := Lib.hid (prow_far SF.out.2 GN.out.1 k x)
      have PR := Lib.hid hpr
      have BB := Lib.hid HV.out.bb
      clear hpr
      generalize wv.setCells NB (k * 16) x.cs.toList = w4 at *
      refine ⟨⟨LY.out.1.cell 0, GK.out⟩, ?_⟩
      --@Vp6
      refine wpAnyH_done (by kernel_rfl) ?_ _
      (try simp only [Act.put, Act.eval, List.setIfInBounds_toArray, List.set_cons_succ, List.set_cons_zero])
      have Z3 := Lib.hid LY.out.2.1
      have RB := Lib.hid LY.out.1
      have B3 := Lib.hid (show Out w w4 (RfP NB Z) from BV.out.trans LY.out.2.2)
      have c1 : w4.cell? ⟨R, 1, none⟩ = some (.slice (some ⟨Z, 0, none⟩) n n) := RB.out.cell 1
      have hks : k < st.length := by rw [SL.out]; have := HK.out; omega
      have cz : w4.cell? ⟨Z, k, none⟩ = some (.int .i64 ((st[k] : Nat) : Int)) := (Z3.out.cell k).trans (izero_get st k hks)
      have fz := Z3.out.fz k
      obtain ⟨old, hold⟩ : ∃ old, old = st[k] := ⟨_, rfl⟩
      rw [← hold] at cz
      clear HV BV SF hold HWV LY GK
      --@Vp7
      go_wp2
      go_ret
      refine ⟨.inl ⟨⟨by omega, HK.out, HOK.out⟩, rfl, ⟨RB.out.far NE.out.2.1.symm _, ?_, ?_, by rw [List.length_set]; exact PL.out, by rw [List.length_set]; exact SL.out, BB.out⟩⟩, ?_⟩
      · rw [hk6]; exact PR.out.of_block (Below.heap_setCell w4 _ _ NB NE.out.2.2)
      · rw [hk6, ← izero_set]; exact Z3.out.set k _
      · exact B3.out.set (fun _ => .inr rfl) _
    · rw [decide_eq_false hok]
      go_wp2
      go_ret
      exact ⟨.inr ⟨fun hg => hok hg.2.2, rfl, H2.out⟩, B2.out⟩
  · have h1' : (n : Int) ≤ id := by omega
    go_wp2
    go_ret
    exact ⟨.inr ⟨fun hg => by have := hg.2.1; omega, rfl, H1.out⟩, B1.out⟩
end Go.Proofs.Ytgafajbdmegfgaa
namespace Go.Proofs.Ytgafajbdmegfgaa
open Go.RowKit

/-- A block of bytes that may be written. -/
def Byt (w : World) (g : Nat) (d : ByteArray) : Prop := ∃ (C : Array Value) (lo hi : Nat), w.heap[g]? = some (.cells C 5 (lo, hi)) ∧ (d.size ≤ lo ∨ hi = 0) ∧ ∀ j, j < d.size → C[j]? = some (.int .u8 (d.data.getD j 0).toNat)
namespace Byt
variable {w w' : World} {g : Nat} {d : ByteArray}
theorem lt (h : Byt w g d) : g < w.heap.size := by obtain ⟨C, lo, hi, h, _⟩ := h; exact (Array.getElem?_eq_some_iff.1 h).1
theorem cell (h : Byt w g d) {j : Nat} (hj : j < d.size) : w.cell? ⟨g, j, none⟩ = some (.int .u8 (d.data.getD j 0).toNat) := by
  obtain ⟨C, lo, hi, h, _, hc⟩ := h
  rw [World.cell?, h]
  exact hc j hj
theorem fz (h : Byt w g d) {j : Nat} (hj : j < d.size) : w.frozen? ⟨g, j, none⟩ = false := by
  obtain ⟨C, lo, hi, h, hl, _⟩ := h
  rw [World.frozen?, h]
  simp
  omega
theorem kept (h : Byt w g d) (hb : Below w.heap.size w w') : Byt w' g d := by
  have hlt := h.lt
  obtain ⟨C, lo, hi, h, r⟩ := h
  exact ⟨C, lo, hi, (hb.block g hlt).trans h, r⟩
theorem set (h : Byt w g d) (b : Nat) (x : UInt8) (hb : b < d.size) : Byt (w.setCell ⟨g, b, none⟩ (.int .u8 x.toNat)) g ⟨d.data.setIfInBounds b x⟩ := by
  obtain ⟨C, lo, hi, h, hl, hc⟩ := h
  have hbd : b < d.data.size := hb
  have hsz : ByteArray.size ⟨d.data.setIfInBounds b x⟩ = d.size := Array.size_setIfInBounds
  refine ⟨C.setIfInBounds b (.int .u8 x.toNat), lo, hi, by simp [World.setCell, Array.getElem?_modify, h], by rw [hsz]; exact hl, fun j hj => ?_⟩
  rw [hsz] at hj
  have hcb : b < C.size := by
    have := hc b hb
    exact (Array.getElem?_eq_some_iff.1 this).1
  by_cases e : j = b
  · subst e
    rw [Array.getElem?_setIfInBounds_self_of_lt hcb, Array.getD_eq_getD_getElem?, Array.getElem?_setIfInBounds_self_of_lt hbd]
    rfl
  · rw [Array.getElem?_setIfInBounds_ne (Ne.symm e), Array.getD_eq_getD_getElem?, Array.getElem?_setIfInBounds_ne (Ne.symm e), ← Array.getD_eq_getD_getElem?]
    exact hc j hj
end Byt
section
variable {ops : Array Oper} {rest : List Oper} {o : Oper} {a : Act} {w : World} {Q : Exit → Act → World → Prop}
theorem conv_bytes (hg : o.guard = none) (x : Operand) (ho : o.op = .convert 9 61 x) (d : ByteArray) (hx : a.eval x = .string d)
    (h : ∀ cap w1, Below w.heap.size w w1 → Byt w1 w.heap.size d → wpList Try.prog ops Q rest (a.put o.dst (.slice (some ⟨w.heap.size, 0, none⟩) d.size cap)) w1) : wpList Try.prog ops Q (o :: rest) a w := by
  refine wpList_plain hg fun K' hK' => ?_
  have hr := run_bytes_of_string (P := Try.prog) w 9 61 5 d Try.underlying9 Try.underlying61 Try.underlying5
  unfold Oper.wp execOp
  simp only [ho, hx, Sem.run_bind, Sem.run_pure, Result.andThen_ok, hr]
  refine hK' _ _ (h _ _ ((Below.refl _ _).drew.alloc (Nat.le_refl _) _) ⟨_, _, _, heap_alloc_new w.drew _, ?_, fun j hj => ?_⟩)
  · left
    have hd : d.data.size = d.size := rfl
    simp [bytesRow, hd]
  · have hjd : j < d.data.size := hj
    simp [bytesRow, Array.getElem?_append, Array.getD_eq_getD_getElem?]
    rw [if_pos hj, Array.getElem?_eq_getElem hjd]
    rfl
theorem conv_back (hg : o.guard = none) (x : Operand) (ho : o.op = .convert 61 9 x) (g : Nat) (d : ByteArray) (n cap : Nat) (hn : n = d.size) (hx : a.eval x = .slice (some ⟨g, 0, none⟩) n cap) (hb : Byt w g d)
    (h : wpList Try.prog ops Q rest (a.put o.dst (.string d)) w) : wpList Try.prog ops Q (o :: rest) a w := by
  subst hn
  refine wpList_plain hg fun K' hK' => ?_
  have hr := run_convert_bytes_back (P := Try.prog) w 61 9 5 ⟨g, 0, none⟩ cap d.data.toList Try.underlying61 Try.underlying5 Try.underlying9 (fun j hj => by
    rw [Addr.add_lit, Nat.zero_add]
    have hj' : j < d.size := by simpa using hj
    rw [hb.cell hj', Array.getD_eq_getD_getElem?, ← Array.getElem?_toList, List.getElem?_eq_getElem hj]
    rfl)
  have hl : d.data.toList.length = d.size := Array.length_toList
  rw [hl] at hr
  unfold Oper.wp execOp
  simp only [ho, hx, Sem.run_bind, Sem.run_pure, Result.andThen_ok, hr]
  exact hK' _ _ h
end
/-- An array of pages. -/
def PArr (w : World) (g : Nat) (t : TypeId) (ps : List Pg) : Prop := Bk w g t (flatPg ps).toArray
namespace PArr
variable {w w' : World} {g : Nat} {t : TypeId} {ps : List Pg}
theorem range (h : PArr w g t ps) {i : Nat} {p : Pg} (hi : ps[i]? = some p) : w.rangeAt g (i * 16) p.cs.toList := fun j v hv => by
  have hj : j < 16 := by have := (List.getElem?_eq_some_iff.1 hv).1; rwa [pg_len] at this
  rw [Bk.cell h, List.getElem?_toArray, flat_get ps i p hi j hj]
  simpa using hv
theorem there (h : PArr w g t ps) {i : Nat} (hi : i < ps.length) : w.there g (i * 16) 16 := fun j hj => by
  refine ⟨?_, Bk.fz h _⟩
  rw [Bk.cell h, List.getElem?_toArray, flat_get ps i _ (List.getElem?_eq_getElem hi) j hj, Array.getElem?_eq_getElem (show j < (ps[i]).cs.size from hj)]
  rfl
theorem set (h : PArr w g t ps) (i : Nat) (p : Pg) (hi : i < ps.length) : PArr (w.setCells g (i * 16) p.cs.toList) g t (ps.set i p) := by
  have := Bk.lays p.cs.toList w _ (i * 16) h
  unfold PArr
  rw [← flat_set ps i p hi]
  exact this
end PArr
section
variable {ops : Array Oper} {rest : List Oper} {o : Oper} {a : Act} {w : World} {Q : Exit → Act → World → Prop}
theorem store_arr_at (hgd : o.guard = none) (x y : Operand) (ho : o.op = .store 40 x y) (g : Nat) (t : TypeId) (ps : List Pg) (i : Nat) (p : Pg) (hi : i < ps.length) (hx : a.eval x = .pointer (some ⟨g, i * 16, none⟩)) (hy : a.eval y = .agg p.cs) (hr : PArr w g t ps)
    (h : PArr (w.setCells g (i * 16) p.cs.toList) g t (ps.set i p) → wpList Try.prog ops Q rest (a.put o.dst undef) (w.setCells g (i * 16) p.cs.toList)) : wpList Try.prog ops Q (o :: rest) a w :=
  wpList_store_mid hgd 40 x y ho g (i * 16) p.cs hx hy (hr.there hi) (by rw [show p.cs.size = 16 from rfl]; kernel_rfl) (by unfold Pg.cs; simp [Value.oneCell']) (h (hr.set i p hi))
end
section
variable {w w' : World} {B gd gl gp pages frames F q : Nat} {Now : Nat → Pg} {St : Nat → Nat}
/-- A pool over what the device has. -/
theorem vw_again (h : Vw w B gd gl gp pages frames F q Now St (fun _ => False)) (fr2 : Nat) (h3 : 4 ≤ fr2) (h4 : fr2 ≤ 256) :
    Calls Try.prog 10 #[.pointer (some ⟨gd, 0, none⟩), .pointer (some ⟨gl, 0, none⟩), .int .i64 128, .int .i64 (pages : Int), .int .i64 (fr2 : Int)] w fun e w' => ∃ gq, e = .returned (.tuple #[.pointer (some ⟨gq, 0, none⟩), .int .i64 0]) ∧ Vw w' B gd gl gq pages fr2 F q Now St (fun _ => False) ∧ Below w.heap.size w w' := by
  obtain ⟨I, J, P, L, S, hp, rfl, rfl, h3', e4, rfl, h6, h7, h8, h9, h10, h11, h12⟩ := h
  have hfit := hp.pv.fit
  rw [e4] at hfit
  refine (pnew_good hp.wl 128 P.pages fr2 hp.pq.ok.p1 hp.pq.ok.p2 h3 h4 hfit hp.hB).mono ?_
  rintro e w' ⟨g, rfl, hq, hb⟩
  refine ⟨g, rfl, ⟨I, _, _, L, S, ⟨hp.wl.kept hb, hq, rfl, rfl, ?_, by show L.first + L.n ≤ 128; rw [h9, h10]; decide, Nat.le_trans hp.hB hb.size⟩, rfl, rfl, rfl, rfl, rfl, rfl, h7, h8, h9, h10, h11, fun x hx => by cases hx⟩, hb⟩
  exact {
    run := hp.pv.run
    nl := hp.pv.nl
    fit := hfit
    dev := fun i hi => by
      obtain ⟨d, t, hat, hc⟩ := hp.pv.dev i hi
      rw [e4] at hat
      refine ⟨d, t, hat, .inl ?_⟩
      rcases hc with hc | ⟨j, s, hs, hid, hd⟩
      · exact hc
      · exact (h12 s.id (dirtyL_mem.2 ⟨s, List.mem_of_getElem? hs, hd, rfl⟩)).elim
    sl := fun j s hs => by
      change ([] : List Sl)[j]? = some s at hs
      simp at hs }
theorem mark_of {n : Nat} : (Fr.mk n).size = 8 := Fr.mk_size n
/-- A sector as the device has it. -/
theorem vw_sector (h : Vw w B gd gl gp pages frames F q Now St (fun _ => False)) (m : Nat) (hm : m < 4 * pages) :
    ∃ d : Pg, d.ok ∧ Calls Try.prog 20 #[.pointer (some ⟨gd, 0, none⟩), .int .i64 (128 + (m : Int))] w fun e w' => e = .returned (.tuple #[.string (Fr.sec d.bytes (Fr.mk (St (m / 4))) (m % 4)), .int .i64 0]) ∧ w' = w := by
  obtain ⟨I, J, P, L, S, hp, rfl, rfl, h3', e4, rfl, h6, h7, h8, h9, h10, h11, h12⟩ := h
  have hfit := hp.pv.fit
  rw [e4] at hfit
  obtain ⟨d, t, hat, hc⟩ := hp.pv.dev (m / 4) (by omega)
  rw [e4] at hat
  have ht : t = St (m / 4) := by
    rcases hc with hc | ⟨j, s, hs, hid, hd⟩
    · exact hc.2
    · exact (h12 s.id (dirtyL_mem.2 ⟨s, List.mem_of_getElem? hs, hd, rfl⟩)).elim
  subst ht
  refine ⟨d, hat.ok, (read_any hp.wl.dsk (128 + (m : Int))).mono ?_⟩
  rintro e w' ⟨rfl, rfl⟩
  have hr : S.read (128 + (m : Int)) = (Fr.sec d.bytes (Fr.mk (St (m / 4))) (m % 4), 0) := by
    unfold Dsk.read
    rw [if_neg (by rw [hp.pv.run.1]; decide), if_pos ⟨by omega, by omega⟩, ← hat.at_ (m % 4) (by omega)]
    congr 2
    omega
  rw [hr]
  exact ⟨rfl, rfl⟩
/-- A page of the device is torn. -/
def Sd (w : World) (B gd gl pages id : Nat) : Prop := ∃ (I : Wd) (L : Lg) (S : Dsk), Wl w B I L S ∧ I.g = gl ∧ I.d.g = gd ∧ B ≤ w.heap.size ∧ 128 + 4 * pages ≤ S.firm.length ∧ 1 ≤ pages ∧ pages ≤ 1024 ∧ loadP S 128 id = (Pg.zero, 30)
def Sq (w : World) (B gq pages id : Nat) : Prop := ∃ (I : Wd) (J : Pd) (P : Po) (L : Lg) (S : Dsk), Wl w B I L S ∧ Pq w B J P ∧ J.dp = I.d.ptr ∧ J.g = gq ∧ P.base = 128 ∧ P.pages = pages ∧ P.ss = [] ∧ B ≤ w.heap.size ∧ 128 + 4 * pages ≤ S.firm.length ∧ loadP S 128 id = (Pg.zero, 30)
theorem vw_spoil (h : Vw w B gd gl gp pages frames F q Now St (fun _ => False)) (hq : q ≤ 1099511627776) (m : Nat) (hm : m < 4 * pages) (s : ByteArray) (hs : s.size = 64) (ht : Fr.tl s ≠ Fr.mk (St (m / 4))) :
    Calls Try.prog 21 #[.pointer (some ⟨gd, 0, none⟩), .int .i64 (128 + (m : Int)), .string s] w fun e w' => (∃ er : Int, e = .returned (.int .i64 er)) ∧ Sd w' B gd gl pages (m / 4) ∧ Below B w w' := by
  obtain ⟨I, J, P, L, S, hp, rfl, rfl, h3', e4, rfl, h6, h7, h8, h9, h10, h11, h12⟩ := h
  have hfit := hp.pv.fit
  rw [e4] at hfit
  refine (write_any hp.wl.dsk (128 + (m : Int)) s hp.hB (by omega)).mono ?_
  rintro e w' ⟨rfl, p', hd, ho⟩
  obtain ⟨e0, hg, hnow⟩ := pwrite_run hp.pv.run (128 + m) s (by omega) hs
  rw [show ((128 + m : Nat) : Int) = 128 + (m : Int) by omega] at e0 hg hnow
  have hw := hp.wl.disk hd ho
  generalize S.write (128 + (m : Int)) s = R at *
  obtain ⟨S', er⟩ := R
  dsimp only at *
  obtain ⟨d, t, hat, hc⟩ := hp.pv.dev (m / 4) (by omega)
  rw [e4] at hat
  have htt : t = St (m / 4) := by
    rcases hc with hc | ⟨j, s, hs, hid, hd⟩
    · exact hc.2
    · exact (h12 s.id (dirtyL_mem.2 ⟨s, List.mem_of_getElem? hs, hd, rfl⟩)).elim
  subst htt
  refine ⟨⟨er, rfl⟩, ⟨_, L, S', hw, rfl, rfl, Nat.le_trans hp.hB ho.size, by rw [hg.fl]; exact hfit, hp.pq.ok.p1, hp.pq.ok.p2, ?_⟩, ?_⟩
  · have hsec : ∀ k, k < 4 → secsOf S' 128 (m / 4) k = if k = m % 4 then s else Fr.sec d.bytes (Fr.mk (St (m / 4))) k := fun k hk => by
      unfold secsOf
      rw [hnow, getD_set _ _ _ _ (by rw [hp.pv.nl]; omega)]
      by_cases e : k = m % 4
      · rw [if_pos e, if_pos (by omega)]
      · rw [if_neg e, if_neg (by omega)]
        exact hat.at_ k hk
    have hb := bytes_size d hat.ok
    have hop := Fr.opened_torn (s := secsOf S' 128 (m / 4)) (fun k hk => by
      rw [hsec k hk]
      by_cases e : k = m % 4
      · rw [if_pos e]; exact hs
      · rw [if_neg e]; exact Fr.sec_size hb mark_of hk) (by
      by_cases e : m % 4 = 0
      · refine ⟨1, by omega, ?_⟩
        rw [hsec 1 (by omega), hsec 0 (by omega), if_neg (by omega), if_pos e.symm, Fr.sec_tl hb (by omega)]
        exact Ne.symm ht
      · refine ⟨m % 4, by omega, ?_⟩
        rw [hsec (m % 4) (by omega), hsec 0 (by omega), if_pos rfl, if_neg (Ne.symm e), Fr.sec_tl hb (by omega)]
        exact ht)
    unfold loadP
    rw [if_neg (by rw [hg.run.1]; decide), hop]
    rfl
  · refine ho.below hp.hB fun k hk => ?_
    rcases hk with rfl | rfl | rfl | hk
    · exact hp.wl.dsk.bg
    · exact hp.wl.dsk.bf
    · exact hp.wl.dsk.bn
    · exact (owns_block hp.wl.dsk.pend hk).1
theorem sd_new {id : Nat} (h : Sd w B gd gl pages id) (fr2 : Nat) (h3 : 4 ≤ fr2) (h4 : fr2 ≤ 256) :
    Calls Try.prog 10 #[.pointer (some ⟨gd, 0, none⟩), .pointer (some ⟨gl, 0, none⟩), .int .i64 128, .int .i64 (pages : Int), .int .i64 (fr2 : Int)] w fun e w' => ∃ gq, e = .returned (.tuple #[.pointer (some ⟨gq, 0, none⟩), .int .i64 0]) ∧ Sq w' B gq pages id ∧ Below w.heap.size w w' := by
  obtain ⟨I, L, S, hw, rfl, rfl, hB, hf, p1, p2, hl⟩ := h
  refine (pnew_good hw 128 pages fr2 p1 p2 h3 h4 hf hB).mono ?_
  rintro e w' ⟨g, rfl, hq, hb⟩
  exact ⟨g, rfl, ⟨I, _, _, L, S, hw.kept hb, hq, rfl, rfl, rfl, rfl, rfl, Nat.le_trans hB hb.size, hf, hl⟩, hb⟩
theorem sq_get {id gq : Nat} (h : Sq w B gq pages id) (hid : id < pages) :
    Calls Try.prog 12 #[.pointer (some ⟨gq, 0, none⟩), .int .i64 (id : Int)] w fun e w' => (∃ x : Pg, e = .returned (.tuple #[.agg x.cs, .int .i64 30])) ∧ Below B w w' := by
  obtain ⟨I, J, P, L, S, hw, hq, ed, rfl, eb, rfl, es, hB, hf, hl⟩ := h
  refine (pget_any hw.dsk hq ed id hid (by rw [eb]; exact hf) hB).mono ?_
  rintro e w' ⟨J', P', x, er, rfl, -, -, -, -, hr, ho⟩
  refine ⟨⟨x, ?_⟩, pf_below (sf_pf ho) hB⟩
  rw [← eb] at hl
  rcases hr with ⟨j, hj, -⟩ | ⟨-, -, -, -, rfl⟩ | ⟨-, h2, -⟩
  · rw [es] at hj; exact absurd hj (Nat.not_lt_zero j)
  · rw [hl]
  · rw [hl] at h2; cases h2
end
theorem xor_bit (x : UInt8) : bits .xor .u8 (x.toNat : Int) 1 = ((x ^^^ 1).toNat : Int) := by
  have : ∀ n : Fin 256, bits .xor .u8 (n.val : Int) 1 = (((UInt8.ofNat n.val) ^^^ 1).toNat : Int) := by decide +kernel
  have h := this ⟨x.toNat, UInt8.toNat_lt x⟩
  simpa using h
theorem xor_ne (x : UInt8) : x ^^^ 1 ≠ x := fun h => by
  have h2 : x ^^^ (x ^^^ 1) = x ^^^ x := by rw [h]
  rw [← UInt8.xor_assoc, UInt8.xor_self, UInt8.zero_xor] at h2
  exact absurd h2 (by decide)
theorem tl_turned (s : ByteArray) (hs : s.size = 64) : Fr.tl ⟨s.data.setIfInBounds 60 (s.data.getD 60 0 ^^^ 1)⟩ ≠ Fr.tl s := fun h => by
  have hd : s.data.size = 64 := hs
  have h1 : (Fr.tl ⟨s.data.setIfInBounds 60 (s.data.getD 60 0 ^^^ 1)⟩).data[4]? = (Fr.tl s).data[4]? := by rw [h]
  unfold Fr.tl at h1
  rw [ByteArray.data_extract, ByteArray.data_extract] at h1
  have e1 : ByteArray.size ⟨s.data.setIfInBounds 60 (s.data.getD 60 0 ^^^ 1)⟩ = 64 := by show (s.data.setIfInBounds _ _).size = 64; rw [Array.size_setIfInBounds]; exact hd
  rw [e1, hs, Array.getElem?_extract, Array.getElem?_extract] at h1
  simp [hd] at h1
  exact xor_ne _ h1
end Go.Proofs.Ytgafajbdmegfgaa
namespace Go.Proofs.Ytgafajbdmegfgaa
open Go.RowKit

/-- A volume under way, its log's places apart from the block Z. -/
def Vz (w : World) (B gd gl gp pages frames F q : Nat) (Now : Nat → Pg) (St : Nat → Nat) (Z : Nat) (cl : Prop) : Prop :=
  ∃ (I : Wd) (J : Pd) (P : Po) (L : Lg) (S : Dsk), Ps w B I J P L S Now St ∧ I.g = gl ∧ I.d.g = gd ∧ J.g = gp ∧ P.base = 128 ∧ P.pages = pages ∧ P.frames = frames ∧ L.fin = F ∧ L.start = 54 ∧ L.n = 128 ∧ L.first = 0 ∧ S.pend.length ≤ q ∧ (cl → dirtyL P.ss = []) ∧ I.pv.ownBlock ≠ some Z ∧ Z < w.heap.size
/-- What may be touched beside: no block of these types but Z's like. -/
def PZ (B Z : Nat) (w : World) (k : Nat) : Prop := PI B w k ∧ k ≠ Z
section
variable {w w' : World} {B gd gl gp pages frames F q Z : Nat} {Now : Nat → Pg} {St : Nat → Nat} {cl : Prop}
theorem Vz.of (h : Vw w B gd gl gp pages frames F q Now St (fun _ => False)) (hz : w.heap.size ≤ Z) (hz2 : Below w.heap.size w w') (hz3 : Z < w'.heap.size) : Vz w' B gd gl gp pages frames F q Now St Z True := by
  obtain ⟨I, J, P, L, S, hp, h1, h2, h3, h4, h5, h6, h7, h8, h9, h10, h11, h12⟩ := h
  refine ⟨I, J, P, L, S, hp.kept hz2, h1, h2, h3, h4, h5, h6, h7, h8, h9, h10, h11, fun _ => ?_, fun e => ?_, hz3⟩
  · cases hd : dirtyL P.ss with
    | nil => rfl
    | cons x l => exact (h12 x (by rw [hd]; exact List.mem_cons_self)).elim
  · have := (owns_block hp.wl.plc e).2.1
    omega
theorem Vz.kept (h : Vz w B gd gl gp pages frames F q Now St Z cl) (hb : Below w.heap.size w w') : Vz w' B gd gl gp pages frames F q Now St Z cl := by
  obtain ⟨I, J, P, L, S, hp, h1, h2, h3, h4, h5, h6, h7, h8, h9, h10, h11, h12, h13, h14⟩ := h
  exact ⟨I, J, P, L, S, hp.kept hb, h1, h2, h3, h4, h5, h6, h7, h8, h9, h10, h11, h12, h13, Nat.lt_of_lt_of_le h14 hb.size⟩
theorem Vz.alloc (h : Vz w B gd gl gp pages frames F q Now St Z cl) (o : Obj) : Vz (w.alloc o) B gd gl gp pages frames F q Now St Z cl := h.kept ((Below.refl w.heap.size w).alloc (Nat.le_refl _) o)
theorem Vz.weak (h : Vz w B gd gl gp pages frames F q Now St Z cl) {q' : Nat} (hq : q ≤ q') {cl' : Prop} (hc : cl' → cl) : Vz w B gd gl gp pages frames F q' Now St Z cl' := by
  obtain ⟨I, J, P, L, S, hp, h1, h2, h3, h4, h5, h6, h7, h8, h9, h10, h11, h12, h13⟩ := h
  exact ⟨I, J, P, L, S, hp, h1, h2, h3, h4, h5, h6, h7, h8, h9, h10, Nat.le_trans h11 hq, fun h => h12 (hc h), h13⟩
theorem Vz.vw (h : Vz w B gd gl gp pages frames F q Now St Z cl) : ∃ D, Vw w B gd gl gp pages frames F q Now St D := by
  obtain ⟨I, J, P, L, S, hp, h1, h2, h3, h4, h5, h6, h7, h8, h9, h10, h11, -, -⟩ := h
  exact ⟨fun _ => True, I, J, P, L, S, hp, h1, h2, h3, h4, h5, h6, h7, h8, h9, h10, h11, fun _ _ => trivial⟩
theorem Vz.hB (h : Vz w B gd gl gp pages frames F q Now St Z cl) : B ≤ w.heap.size := by
  obtain ⟨D, h⟩ := h.vw
  exact h.hB
/-- Blocks of other types, and Z, are the law's own. -/
theorem Vz.other (h : Vz w B gd gl gp pages frames F q Now St Z cl) (hz : ∃ cs, Bk w Z 3 cs) (hs : w.heap.size ≤ w'.heap.size) (hb : ∀ k t cs, Bk w k t cs → plI t → k ≠ Z → w'.heap[k]? = w.heap[k]?) : Vz w' B gd gl gp pages frames F q Now St Z cl := by
  obtain ⟨cz, hz⟩ := hz
  obtain ⟨I, J, P, L, S, hp, h1, h2, h3, h4, h5, h6, h7, h8, h9, h10, h11, h12, h13, h14⟩ := h
  have hT : ∀ j t cs, Bk w j t cs → t ≠ 3 → plI t → w'.heap[j]? = w.heap[j]? := fun j t cs hc hne ht => hb j t cs hc ht (Bk.ne_ hc hz hne)
  have hd : Dk w' B I.d S := hp.wl.dsk.of_same fun k hk => by
    obtain ⟨hty, hlt⟩ := hp.wl.dsk.foot_lt hk
    have := hp.wl.df_ty (k := k) (by
      rcases hk with rfl | rfl | rfl | hk
      · exact .inr (.inl rfl)
      · exact .inr (.inr (.inl rfl))
      · exact .inr (.inr (.inr (.inl rfl)))
      · obtain ⟨b1, b2, c, hc⟩ := owns_block hp.wl.dsk.pend hk
        exact .inr (.inr (.inr (.inr ⟨b1, c, hc⟩))))
    obtain ⟨-, t, cs, hc, ht⟩ := this
    refine hT k t cs hc ?_ ?_
    · rcases ht with rfl | rfl | rfl | rfl <;> decide
    · unfold plI plT
      rcases ht with rfl | rfl | rfl | rfl <;> simp
  have hw : Wl w' B I L S := {
    box := (hT _ _ _ hp.wl.box (by decide) (by unfold plI plT; simp)).trans hp.wl.box
    bg := hp.wl.bg
    dsk := hd
    dat := owns_of_block hp.wl.dat fun k hk => by
      obtain ⟨b1, b2, c, hc⟩ := owns_block hp.wl.dat hk
      exact hT k _ _ hc (by decide) (by unfold plI plT; simp)
    plc := owns_of_block hp.wl.plc fun k hk => by
      obtain ⟨b1, b2, c, hc⟩ := owns_block hp.wl.plc hk
      exact hb k _ _ hc (.inr rfl) fun e => h13 (by rw [← e]; exact hk)
    ok := hp.wl.ok }
  refine ⟨I, J, P, L, S, ⟨hw, hp.pq.of_same fun j _ ⟨t, cs, hc, ht⟩ => hT j t cs hc ?_ ?_, hp.ed, hp.el, hp.pv, hp.fb, Nat.le_trans hp.hB hs⟩, h1, h2, h3, h4, h5, h6, h7, h8, h9, h10, h11, h12, h13, Nat.lt_of_lt_of_le h14 hs⟩
  · rcases ht with rfl | rfl | rfl <;> decide
  · unfold plI plT
    rcases ht with rfl | rfl | rfl <;> simp
theorem pf_pz {a b : World} (h : Out a b (PF B a)) (hz : ∃ cs, Bk a Z 3 cs) : Out a b (PZ B Z a) := h.mono fun i _ hi => ⟨⟨hi.1, by obtain ⟨t, cs, hc, ht⟩ := hi.2; exact ⟨t, cs, hc, .inl ht⟩⟩, fun e => by
  obtain ⟨cz, hz⟩ := hz
  obtain ⟨-, t, cs, hc, ht⟩ := hi
  subst e
  have e2 : t = 3 := Classical.byContradiction fun hne => Bk.ne_ hc hz hne rfl
  subst e2
  revert ht
  unfold plT
  decide⟩
theorem vz_get (h : Vz w B gd gl gp pages frames F q Now St Z cl) (hz : ∃ cs, Bk w Z 3 cs) (id : Int) :
    Calls Try.prog 12 #[.pointer (some ⟨gp, 0, none⟩), .int .i64 id] w fun e w' =>
      (0 ≤ id ∧ id < (pages : Int) ∧ e = .returned (.tuple #[.agg (Now id.toNat).cs, .int .i64 0]) ∨ ¬ (0 ≤ id ∧ id < (pages : Int)) ∧ e = .returned (.tuple #[.agg Pg.zero.cs, .int .i64 1])) ∧
      Vz w' B gd gl gp pages frames F q Now St Z cl ∧ Out w w' (PZ B Z w) := by
  obtain ⟨I, J, P, L, S, hp, h1, h2, rfl, h4, rfl, h6, h7, h8, h9, h10, h11, h12, h13, h14⟩ := h
  by_cases hid : 0 ≤ id ∧ id < (P.pages : Int)
  · obtain ⟨k, rfl⟩ : ∃ k : Nat, id = (k : Int) := ⟨id.toNat, by omega⟩
    refine (pget_any hp.wl.dsk hp.pq hp.ed k (by omega) hp.pv.fit hp.hB).mono ?_
    rintro e w' ⟨J', P', x, er, rfl, hq, eg, edp, elp, hr, ho⟩
    obtain ⟨rfl, hx, hv, e1, e2, e3⟩ := hp.pv.get (by omega) hr
    refine ⟨.inl ⟨hid.1, hid.2, by rw [Int.toNat_natCast, hx]⟩, ⟨I, J', P', L, S, ⟨hp.wl.sf ho, hq, edp.trans hp.ed, elp.trans hp.el, hv, by rw [e1]; exact hp.fb, Nat.le_trans hp.hB ho.size⟩, h1, h2, eg, e1.trans h4, e2, e3.trans h6, h7, h8, h9, h10, h11, fun hc => ?_, h13, Nat.lt_of_lt_of_le h14 ho.size⟩, pf_pz (sf_pf ho) hz⟩
    refine List.eq_nil_iff_forall_not_mem.2 fun y hy => ?_
    have := hr.dirty hy
    rw [h12 hc] at this
    cases this
  · refine (pget_bad hp.pq id hid).mono ?_
    rintro e w' ⟨rfl, hb⟩
    exact ⟨.inr ⟨hid, rfl⟩, ⟨I, J, P, L, S, hp.kept hb, h1, h2, rfl, h4, rfl, h6, h7, h8, h9, h10, h11, h12, h13, Nat.lt_of_lt_of_le h14 hb.size⟩, .of_below hb _⟩
theorem vz_put (h : Vz w B gd gl gp pages frames F q Now St Z cl) (hz : ∃ cs, Bk w Z 3 cs) (id : Int) (x : Pg) (st : Nat) (hst : st ≤ 9223372036854775807) (hq : q ≤ 2199023255552) :
    Calls Try.prog 15 #[.pointer (some ⟨gp, 0, none⟩), .int .i64 id, .agg x.cs, .int .i64 (st : Int)] w fun e w' =>
      (putGood pages id x ∧ e = .returned (.int .i64 0) ∧ Vz w' B gd gl gp pages frames F (q + 4102) (updN Now id.toNat x) (updN St id.toNat st) Z False ∨
        ¬ putGood pages id x ∧ e = .returned (.int .i64 1) ∧ Vz w' B gd gl gp pages frames F q Now St Z cl) ∧ Out w w' (PZ B Z w) := by
  obtain ⟨I, J, P, L, S, hp, h1, h2, rfl, h4, rfl, h6, h7, h8, h9, h10, h11, h12, h13, h14⟩ := h
  by_cases hg : putGood P.pages id x
  · obtain ⟨hi0, hi1, hx⟩ := hg
    obtain ⟨k, rfl⟩ : ∃ k : Nat, id = (k : Int) := ⟨id.toNat, by omega⟩
    refine (ps_put hp k (by omega) x hx st hst (by omega)).mono ?_
    rintro e w' ⟨p', J', P', L', S', rfl, eg, hr, hp', e1, e2, e3, ho⟩
    obtain ⟨l1, l2, l3, l4, l5⟩ := hr.lg hp.wl.ok
    rw [Int.toNat_natCast]
    exact ⟨.inl ⟨⟨hi0, hi1, hx⟩, rfl, _, J', P', L', S', hp', h1, h2, eg, e1.trans h4, e2, e3.trans h6, l1.trans h7, l2.trans h8, l3.trans h9, l4.trans h10, by omega, fun h => h.elim, h13, Nat.lt_of_lt_of_le h14 ho.size⟩, pf_pz ho hz⟩
  · refine (pput_bad hp.pq id x (st : Int) ?_).mono ?_
    · by_cases h0 : 0 ≤ id ∧ id < (P.pages : Int)
      · exact .inr (.inr fun hx => hg ⟨h0.1, h0.2, hx⟩)
      · exact .inl h0
    rintro e w' ⟨rfl, hb⟩
    exact ⟨.inr ⟨hg, rfl, I, J, P, L, S, hp.kept hb, h1, h2, rfl, h4, rfl, h6, h7, h8, h9, h10, h11, h12, h13, Nat.lt_of_lt_of_le h14 hb.size⟩, .of_below hb _⟩
theorem vz_append (h : Vz w B gd gl gp pages frames F q Now St Z cl) (hz : ∃ cs, Bk w Z 3 cs) (rec : ByteArray) (hs : rec.size ≤ maxLen) :
    Calls Try.prog 14 #[.pointer (some ⟨gl, 0, none⟩), .string rec] w fun e w' =>
      e = .returned (.tuple #[.int .i64 ((apF F rec.size).2.1 : Nat), .int .i64 (apF F rec.size).2.2]) ∧ Vz w' B gd gl gp pages frames (apF F rec.size).1 q Now St Z cl ∧ Out w w' (PZ B Z w) := by
  have hF : 54 ≤ F ∧ F ≤ 6966 := by obtain ⟨D, h⟩ := h.vw; exact h.fin_le
  obtain ⟨I, J, P, L, S, hp, rfl, h2, h3, h4, h5, h6, h7, h8, h9, h10, h11, h12, h13, h14⟩ := h
  refine (append_any hp.wl rec hp.hB hs (by omega)).mono ?_
  rintro e w' ⟨rfl, dv, pv, hw, ho, hpv⟩
  have hroom : L.room = 6912 - (F - 54) := by
    unfold Lg.room flr
    rw [h7, h8, h9]
  have ha : (L.append rec).2.1 = (apF F rec.size).2.1 ∧ (L.append rec).2.2 = (apF F rec.size).2.2 ∧ (L.append rec).1.fin = (apF F rec.size).1 ∧ (L.append rec).1.start = 54 ∧ (L.append rec).1.n = 128 ∧ (L.append rec).1.first = 0 := by
    unfold Lg.append apF
    rw [hroom]
    split
    · exact ⟨rfl, rfl, h7, h8, h9, h10⟩
    split
    · exact ⟨rfl, rfl, h7, h8, h9, h10⟩
    split
    · exact ⟨rfl, rfl, h7, h8, h9, h10⟩
    · exact ⟨h7, rfl, by show L.fin + _ = _; rw [h7], h8, h9, h10⟩
  have hty : ∀ k, k < w.heap.size → (k = I.g ∨ I.pv.ownBlock = some k ∨ I.dv.ownBlock = some k) → B ≤ k ∧ ∃ t cs, Bk w k t cs ∧ (t = 71 ∨ t = 3 ∨ t = 5) := fun k _ hk => by
    rcases hk with rfl | hk | hk
    · exact ⟨hp.wl.bg, _, _, hp.wl.box, .inl rfl⟩
    · obtain ⟨b1, b2, c, hc⟩ := owns_block hp.wl.plc hk
      exact ⟨b1, _, _, hc, .inr (.inl rfl)⟩
    · obtain ⟨b1, b2, c, hc⟩ := owns_block hp.wl.dat hk
      exact ⟨b1, _, _, hc, .inr (.inr rfl)⟩
  refine ⟨by rw [ha.1, ha.2.1], ⟨⟨I.g, I.d, dv, pv⟩, J, P, (L.append rec).1, S, ⟨hw, ?_, hp.ed, hp.el, hp.pv, ?_, Nat.le_trans hp.hB ho.size⟩, rfl, h2, h3, h4, h5, h6, ha.2.2.1, ha.2.2.2.1, ha.2.2.2.2.1, ha.2.2.2.2.2, h11, h12, fun e => ?_, Nat.lt_of_lt_of_le h14 ho.size⟩, ?_⟩
  · refine hp.pq.out ho fun k hk hpk => ?_
    obtain ⟨-, t, cs, hc, ht⟩ := hty k hk hpk
    refine ⟨t, cs, hc, ?_⟩
    rcases ht with rfl | rfl | rfl <;> decide
  · rw [ha.2.2.2.2.1, ha.2.2.2.2.2, h4]
    decide
  · rcases hpv Z e with e2 | e2
    · exact h13 e2
    · omega
  · refine ho.mono fun k hk hpk => ?_
    obtain ⟨b1, t, cs, hc, ht⟩ := hty k hk hpk
    refine ⟨⟨b1, t, cs, hc, ?_⟩, fun e => ?_⟩
    · rcases ht with rfl | rfl | rfl
      · left; unfold plT; decide
      · right; rfl
      · left; unfold plT; decide
    · subst e
      obtain ⟨cz, hz⟩ := hz
      rcases hpk with e | hk | hk
      · rw [e] at hz; exact Bk.ne_ hz hp.wl.box (by decide) rfl
      · exact h13 hk
      · obtain ⟨b1, b2, c, hc⟩ := owns_block hp.wl.dat hk
        exact Bk.ne_ hz hc (by decide) rfl
theorem vz_flush (h : Vz w B gd gl gp pages frames F q Now St Z cl) (hz : ∃ cs, Bk w Z 3 cs) (hq : q ≤ 1099511627776) :
    Calls Try.prog 17 #[.pointer (some ⟨gp, 0, none⟩)] w fun e w' => e = .returned (.int .i64 0) ∧ Vz w' B gd gl gp pages frames F 0 Now St Z True ∧ Out w w' (PZ B Z w) := by
  obtain ⟨I, J, P, L, S, hp, h1, h2, rfl, h4, h5, h6, h7, h8, h9, h10, h11, h12, h13, h14⟩ := h
  refine (pflush_any hp.wl hp.pq hp.ed hp.el hp.pv.good hp.hB (by omega)).mono ?_
  rintro e w' ⟨p', rfl, hw, hq', ho⟩
  obtain ⟨a, b, c, d, e1, e2, e3, e4⟩ := pv_flushAll hp.pv hp.pq.ok hp.wl.ok hp.fb
  obtain ⟨l1, l2, l3, l4⟩ := flushAll_lg P L S
  have hps : Ps w' B ⟨I.g, I.d.with p', I.dv, I.pv⟩ J (flushAll P L S).1 (flushAll P L S).2.1 (flushAll P L S).2.2.1 Now St := ⟨hw, hq', hp.ed, hp.el, b, by rw [l3, l4, e1]; exact hp.fb, Nat.le_trans hp.hB ho.size⟩
  exact ⟨by rw [a], ⟨_, J, _, _, _, hps, h1, h2, rfl, e1.trans h4, e2.trans h5, e3.trans h6, l1.trans h7, l2.trans h8, l3.trans h9, l4.trans h10, by rw [e4]; exact Nat.zero_le _, fun _ => d, h13, Nat.lt_of_lt_of_le h14 ho.size⟩, pf_pz ho hz⟩
theorem vz_dirty (h : Vz w B gd gl gp pages frames F q Now St Z cl) :
    Calls Try.prog 18 #[.pointer (some ⟨gp, 0, none⟩)] w fun e w' => ∃ (a : Option Addr) (n c : Nat), e = .returned (.slice a n c) ∧ n ≤ frames ∧ n ≤ 256 ∧ (cl → n = 0) ∧ Below w.heap.size w w' := by
  obtain ⟨I, J, P, L, S, hp, h1, h2, rfl, h4, h5, rfl, h7, h8, h9, h10, h11, h12, h13, h14⟩ := h
  refine (dirty_any hp.pq).mono ?_
  rintro e w' ⟨v, rfl, ho, hb⟩
  have hl : (sortedD P).length ≤ P.ss.length := by rw [sortedD_len]; exact dirtyL_len _
  obtain ⟨a, c, rfl⟩ := ow_slice ho
  exact ⟨a, _, c, rfl, Nat.le_trans hl hp.pq.ok.len, Nat.le_trans hl hp.pq.few, fun hc => by rw [sortedD_len, h12 hc]; rfl, hb⟩
/-- A page of the device, by its sectors. -/
theorem vz_page (h : Vz w B gd gl gp pages frames F q Now St Z True) (i : Nat) (hi : i < pages) :
    ∃ d : Pg, d.ok ∧ d.cs = (Now i).cs ∧ St i < 18446744073709551616 ∧ pages ≤ 1024 ∧ ∀ w1, Below w.heap.size w w1 → ∀ k : Nat, k < 4 → Calls Try.prog 20 #[.pointer (some ⟨gd, 0, none⟩), .int .i64 (128 + 4 * (i : Int) + (k : Int))] w1 fun e w' => e = .returned (.tuple #[.string (Fr.sec d.bytes (Fr.mk (St i)) k), .int .i64 0]) ∧ w' = w1 := by
  obtain ⟨I, J, P, L, S, hp, rfl, rfl, h3', e4, rfl, h6, h7, h8, h9, h10, h11, h12, h13⟩ := h
  have hfit := hp.pv.fit
  rw [e4] at hfit
  obtain ⟨d, t, hat, hc⟩ := hp.pv.dev i hi
  rw [e4] at hat
  have hcc : d.cs = (Now i).cs ∧ t = St i := by
    rcases hc with hc | ⟨j, s, hs, hid, hd⟩
    · exact hc
    · have : s.id ∈ dirtyL P.ss := dirtyL_mem.2 ⟨s, List.mem_of_getElem? hs, hd, rfl⟩
      rw [h12 trivial] at this
      cases this
  obtain ⟨h5, rfl⟩ := hcc
  refine ⟨d, hat.ok, h5, hat.tb, hp.pq.ok.p2, fun w1 hb k hk => (read_any (hp.wl.kept hb).dsk (128 + 4 * (i : Int) + (k : Int))).mono ?_⟩
  rintro e w' ⟨rfl, rfl⟩
  have hr : S.read (128 + 4 * (i : Int) + (k : Int)) = (Fr.sec d.bytes (Fr.mk (St i)) k, 0) := by
    unfold Dsk.read
    rw [if_neg (by rw [hp.pv.run.1]; decide), if_pos ⟨by omega, by omega⟩, ← hat.at_ k hk]
    congr 2
  rw [hr]
  exact ⟨rfl, rfl⟩
end
set_option maxRecDepth 100000 in
set_option maxHeartbeats 8000000 in
theorem tread_any {w : World} {B gd gl gp pages frames F q Z : Nat} {Now : Nat → Pg} {St : Nat → Nat} (h : Vz w B gd gl gp pages frames F q Now St Z True) (i : Nat) (hi : i < pages) :
    ∃ d : Pg, d.ok ∧ d.cs = (Now i).cs ∧ Calls Try.prog 39 #[.pointer (some ⟨gd, 0, none⟩), .int .i64 (i : Int)] w fun e w' => e = .returned (.tuple #[.string d.bytes, .int .u64 (St i : Int), .int .i64 0]) ∧ Below w.heap.size w w' := by
  obtain ⟨d, hd, hdc, htb, h1024, hr⟩ := vz_page h i hi
  refine ⟨d, hd, hdc, ?_⟩
  have CR := Lib.hid hr
  have hi2 : i < 1024 := by omega
  have SZ := Lib.hid (fun k (hk : k < 4) => Fr.sec_size (bytes_size d hd) (mark_of (n := St i)) hk)
  have OP := Lib.hid (show Fr.opened (fun k => Fr.sec d.bytes (Fr.mk (St i)) k) = (d.bytes, St i, 0) from by
    have := opened_same (s := fun k => Fr.sec d.bytes (Fr.mk (St i)) k) (bytes_size d hd) (Fr.mk_size (St i)) (fun _ _ => rfl)
    rw [this, Fr.mk_val _ htb])
  obtain ⟨s, hs⟩ : ∃ s : Nat → ByteArray, s = fun k => Fr.sec d.bytes (Fr.mk (St i)) k := ⟨_, rfl⟩
  have CR := Lib.hid (show ∀ w1, Below w.heap.size w w1 → ∀ k : Nat, k < 4 → Calls Try.prog 20 #[.pointer (some ⟨gd, 0, none⟩), .int .i64 (128 + 4 * (i : Int) + (k : Int))] w1 fun e w' => e = .returned (.tuple #[.string (s k), .int .i64 0]) ∧ w' = w1 from by rw [hs]; exact CR.out)
  have SZ := Lib.hid (show ∀ k : Nat, k < 4 → (s k).size = 64 from by rw [hs]; exact SZ.out)
  have CO := fun w' => ropen_any s w' (fun k hk => by rw [SZ.out k hk]; unfold maxLen; omega)
  rw [← hs] at OP
  rw [OP.out] at CO
  have CO := Lib.hid CO
  have A0 := Lib.hid (Bk.new w 107 (Fr.arr (Fr.upto s 0)))
  have B0 := Lib.hid ((Below.refl w.heap.size w).alloc (Nat.le_refl _) (.cells (Fr.arr (Fr.upto s 0)) 107))
  clear hr hd hdc htb h1024 hs h
  go_enter Try.func39, Try.ntmps39
  go_upto_region 2 with fail
  change Code.wp _ _ _ _ (w.alloc (.cells (Fr.arr (Fr.upto s 0)) 107))
  generalize w.alloc (.cells (Fr.arr (Fr.upto s 0)) 107) = w1 at *
  obtain ⟨G, hG⟩ : ∃ G, G = w.heap.size := ⟨_, rfl⟩
  have GW := Lib.hid (show w.heap.size ≤ G by omega)
  rw [← hG] at A0 ⊢
  clear hG
  go_wp2_with fail
  go_loopw [11] (fun x wr => ∃ k : Nat, k ≤ 4 ∧ x = .int .i64 k ∧ Bk wr G 107 (Fr.arr (Fr.upto s k)) ∧ Below w.heap.size w wr) (fun x _ => 4 - (intOf x).toNat)
  case atStart => exact ⟨0, Nat.zero_le _, rfl, A0.out, B0.out⟩
  case round =>
    clear A0 B0
    obtain ⟨k, hk, rfl, ha, hb⟩ := hrel
    have A := Lib.hid ha; have BW := Lib.hid hb
    clear ha hb
    by_cases hlt : k < 4
    · have HLT := Lib.hid hlt
      have CK := Lib.hid (CR.out wr BW.out k hlt)
      have hk3 : (k : Int) < 4 := by omega
      have hk4 : ¬ (k : Int) < 0 := by omega
      go_wp2_with fail
      refine CK.out.mono ?_
      rintro e w2 ⟨rfl, rfl⟩
      have ya : w2.cell? ⟨G, k, none⟩ = some (.string (Fr.upto s k k)) := by rw [A.out.cell, Fr.arr_get _ k hlt]
      have fa := A.out.fz k
      have A4 := Lib.hid (show Bk (w2.setCell ⟨G, k, none⟩ (.string (s k))) G 107 (Fr.arr (Fr.upto s (k + 1))) from by
        rw [← Fr.arr_set _ k hlt]; exact A.out.set k _)
      have B4 := Lib.hid (BW.out.setCell (p := ⟨G, k, none⟩) GW.out (.string (s k)))
      clear A BW CK
      generalize s k = sk at *
      go_wp2
      go_roundw
      case rel => exact ⟨k + 1, by have := HLT.out; omega, by go_num, A4.out, B4.out⟩
      case measure => have := HLT.out; simp [intOf]; omega
    · obtain rfl : k = 4 := by omega
      have A4 := Lib.hid (show Bk wr G 107 (Fr.arr s) from by have := A.out; rw [Fr.arr_full] at this; exact this)
      clear A hlt hk CR SZ
      go_wp2_with (refine pload_arr rfl _ rfl G s rfl A4.out ?_)
      refine (CO.out _).mono ?_
      rintro e w5 ⟨rfl, hb⟩
      have B5 := Lib.hid (below_then BW.out hb BW.out.size)
      clear hb CO
      go_wp2
      refine bodyPost_ret (v := .tuple #[.string d.bytes, .int .u64 (St i : Int), .int .i64 0]) (by simp [results, Try.results39, go_sem]) rfl ?_
      exact ⟨rfl, B5.out⟩
set_option maxRecDepth 100000 in
set_option maxHeartbeats 8000000 in
theorem there_any {w : World} {B B2 gd gl gp frames F q R NB Z n : Nat} {Now : Nat → Pg} {St : Nat → Nat} {ps : List Pg} {st : List Nat} (h : Vz w B gd gl gp n frames F q Now St Z True) (hR : Rf w B2 R NB Z n ps st)
    (hps : ∀ i, i < n → ∃ p, ps[i]? = some p ∧ p.cs = (Now i).cs) (hst : ∀ i, i < n → st[i]? = some (St i)) :
    Calls Try.prog 19 #[.pointer (some ⟨gd, 0, none⟩), .pointer (some ⟨R, 0, none⟩)] w fun e w' => e = .returned (.bool true) ∧ Below w.heap.size w w' := by
  have V := Lib.hid h; have RF := Lib.hid hR; have PS := Lib.hid hps; have ST := Lib.hid hst
  have N1024 := Lib.hid (show n ≤ 1024 from by obtain ⟨I, J, P, L, S, hp, -, -, -, -, rfl, -⟩ := h; exact hp.pq.ok.p2)
  have c0 : w.cell? ⟨R, 0, none⟩ = some (.slice (some ⟨NB, 0, none⟩) n n) := hR.box.cell 0
  clear h hR hps hst
  go_enter Try.func19, Try.ntmps19
  go_wp2_with fail
  go_loopw [16] (fun x wr => ∃ i : Nat, i ≤ n ∧ x = .int .i64 i ∧ Below w.heap.size w wr) (fun x _ => n - (intOf x).toNat)
  case atStart => exact ⟨0, Nat.zero_le _, rfl, Below.refl _ _⟩
  case round =>
    clear c0
    obtain ⟨i, hi, rfl, hb⟩ := hrel
    have BW := Lib.hid hb
    by_cases hlt : i < n
    · have HLT := Lib.hid hlt
      have V1 := V.out.kept hb
      have R1 := Lib.hid (RF.out.kept hb)
      obtain ⟨d, hd, hdc, hr⟩ := tread_any V1 i hlt
      have CT := Lib.hid hr
      obtain ⟨-, -, -, htb, -, -⟩ := vz_page V1 i hlt
      obtain ⟨p, hp, hpc⟩ := PS.out i hlt
      obtain ⟨s, hs⟩ : ∃ s, s = St i := ⟨_, rfl⟩
      have SI := Lib.hid (show st[i]? = some s from by rw [hs]; exact ST.out i hlt)
      have PI' := Lib.hid hp
      have hi64 : i < 9223372036854775807 := by have := N1024.out; omega
      have hi3 : (i : Int) < (n : Int) := by omega
      have hi4 : ¬ (i : Int) < 0 := by omega
      have hi5 : (i : Int).toNat = i := by omega
      obtain ⟨g1, g2⟩ := good_bytes d hd
      have d1 : decErr d.bytes = 0 := by unfold decErr; exact if_pos g1
      have d2 : Pg.dec d.bytes = Pg.of d.bytes := by unfold Pg.dec; exact if_pos g1
      have CD := Lib.hid (fun w' => show Calls Try.prog 40 #[.string d.bytes] w' (fun e w'' => e = .returned (.tuple #[.agg p.cs, .int .i64 0]) ∧ Below w'.heap.size w' w'') from by
        have := rdecode_long d.bytes w' (bytes_size d hd)
        rw [d1, d2] at this
        unfold Pg.v at this
        rw [g2, hdc, ← hpc] at this
        exact this)
      rw [← hs] at CT htb
      have HTB := Lib.hid htb
      obtain ⟨body, hbody⟩ : ∃ body, body = d.bytes := ⟨_, rfl⟩
      rw [← hbody] at CT CD
      clear hr hd hdc htb hp hpc hs g1 g2 d1 d2 hb V1 hbody
      as_aux_lemma =>
        go_wp2_with fail
        refine CT.out.mono ?_
        rintro e w2 ⟨rfl, hb⟩
        have R2 := Lib.hid (R1.out.kept hb); have B2 := Lib.hid (below_then BW.out hb BW.out.size)
        clear hb CT R1 BW
        as_aux_lemma =>
          go_wp2_with fail
          refine (CD.out _).mono ?_
          rintro e w3 ⟨rfl, hb⟩
          have R3 := Lib.hid ((R2.out.kept hb).alloc (.cells p.cs 40)); have B3a := below_then B2.out hb B2.out.size
          have B3 := Lib.hid (B3a.alloc B3a.size (.cells p.cs 40))
          have K3 := Lib.hid (Bk.new w3 40 p.cs)
          obtain ⟨PB, hPB⟩ : ∃ PB, PB = w3.heap.size := ⟨_, rfl⟩
          rw [← hPB] at K3
          have HPB := Lib.hid hPB
          clear hb CD R2 B2 B3a hPB
          as_aux_lemma =>
            go_upto_region 6 with (refine store_page_new rfl _ _ rfl p rfl rfl ?_; rw [← HPB.out]; clear HPB; generalize w3.alloc (.cells p.cs 40) = w4 at *)
            obtain ⟨wv, hwv⟩ : ∃ wv, wv = w4.drew := ⟨_, rfl⟩
            have HWV := Lib.hid hwv.symm
            have RV := Lib.hid (show Rf wv B2 R NB Z n ps st from by rw [hwv]; exact ⟨R3.out.box, R3.out.now, R3.out.stp, R3.out.pl, R3.out.sl, R3.out.bb⟩)
            have P0 := Lib.hid (show Bk wv PB 40 p.cs from by rw [hwv]; exact K3.out.drew)
            have P1 := Lib.hid (show wv.rangeAt NB (i * 16) p.cs.toList from RV.out.now.range PI'.out)
            have BV := Lib.hid (show Below w.heap.size w wv from by rw [hwv]; exact below_drewN B3.out 1)
            have z0 : wv.cell? ⟨R, 0, none⟩ = some (.slice (some ⟨NB, 0, none⟩) n n) := RV.out.box.cell 0
            have z1 : wv.cell? ⟨R, 1, none⟩ = some (.slice (some ⟨Z, 0, none⟩) n n) := RV.out.box.cell 1
            have z2 : wv.cell? ⟨Z, i, none⟩ = some (.int .i64 (s : Int)) := by
              have hil : i < st.length := by rw [RV.out.sl]; exact HLT.out
              have e2 := SI.out
              rw [List.getElem?_eq_getElem hil] at e2
              injection e2 with e2
              rw [RV.out.stp.cell, izero_get st i hil, e2]
            have hwr : IntKind.u64.wrap (s : Int) = (s : Int) := by
              have := HTB.out
              first | (rw [IntKind.wrap_u64]; omega) | (simp [IntKind.wrap, IntKind.bits, IntKind.signed]; omega)
            clear hwv R3 B3 K3
            as_aux_lemma =>
              refine wp_region_held (S := fun w' => w' = wv) (by kernel_rfl) ?_
              show wpAnyH _ _ _ _ _ _ _ _ w4.drew
              rw [HWV.out]
              refine pk_take (fuel := 28) (i := 0) 31 rfl rfl (by kernel_rfl) (by kernel_rfl) (by kernel_rfl) (fun _ _ _ h => h) (pk_move _ rfl (by kernel_rfl)) rfl ?_
              simp only [Act.put, Act.eval, List.setIfInBounds_toArray, List.set_cons_succ, List.set_cons_zero]
              refine pk_take (fuel := 27) (i := 1) (v := .bool false) 32 rfl rfl (by kernel_rfl) (by kernel_rfl) (by kernel_rfl) (fun _ _ _ h => h) (by refine .inl ⟨by kernel_rfl, fun wx hx => ?_⟩; subst hx; unfold execOp; go_simp) rfl ?_
              simp only [Act.put, Act.eval, List.setIfInBounds_toArray, List.set_cons_succ, List.set_cons_zero]
              refine pk_take (fuel := 26) (i := 2) 33 rfl rfl (by kernel_rfl) (by kernel_rfl) (by kernel_rfl) (fun _ _ _ h => h) (pk_move _ rfl (by kernel_rfl)) rfl ?_
              simp only [Act.put, Act.eval, List.setIfInBounds_toArray, List.set_cons_succ, List.set_cons_zero]
              refine pk_take (fuel := 25) (i := 3) 34 rfl rfl (by kernel_rfl) (by kernel_rfl) (by kernel_rfl) (fun _ _ _ h => h) (pk_move _ rfl (by kernel_rfl)) rfl ?_
              simp only [Act.put, Act.eval, List.setIfInBounds_toArray, List.set_cons_succ, List.set_cons_zero]
              refine pk_take (fuel := 24) (i := 4) (v := .bool false) 35 rfl rfl (by kernel_rfl) (by kernel_rfl) (by kernel_rfl) (fun _ _ _ h => h) (by refine .inl ⟨by kernel_rfl, fun wx hx => ?_⟩; subst hx; unfold execOp; go_simp) rfl ?_
              simp only [Act.put, Act.eval, List.setIfInBounds_toArray, List.set_cons_succ, List.set_cons_zero]
              refine pk_take (fuel := 23) (i := 5) (v := .bool false) 36 rfl rfl (by kernel_rfl) (by kernel_rfl) (by kernel_rfl) (fun _ _ _ h => h) (by refine .inl ⟨by kernel_rfl, fun wx hx => ?_⟩; subst hx; unfold execOp; go_simp) rfl ?_
              simp only [Act.put, Act.eval, List.setIfInBounds_toArray, List.set_cons_succ, List.set_cons_zero]
              refine pk_take (fuel := 22) (i := 6) 37 rfl rfl (by kernel_rfl) (by kernel_rfl) (by kernel_rfl) (fun _ _ _ h => h) (pk_move _ rfl (by kernel_rfl)) rfl ?_
              simp only [Act.put, Act.eval, List.setIfInBounds_toArray, List.set_cons_succ, List.set_cons_zero]
              refine pk_take (fuel := 21) (i := 7) (v := .agg p.cs) 38 rfl rfl (by kernel_rfl) (by kernel_rfl) (by kernel_rfl) (fun _ _ _ h => h) (pk_page _ rfl (by kernel_rfl) PB p rfl (fun w h => h ▸ P0.out)) rfl ?_
              simp only [Act.put, Act.eval, List.setIfInBounds_toArray, List.set_cons_succ, List.set_cons_zero]
              refine pk_take (fuel := 20) (i := 8) 39 rfl rfl (by kernel_rfl) (by kernel_rfl) (by kernel_rfl) (fun _ _ _ h => h) (pk_move _ rfl (by kernel_rfl)) rfl ?_
              simp only [Act.put, Act.eval, List.setIfInBounds_toArray, List.set_cons_succ, List.set_cons_zero]
              refine pk_take (fuel := 19) (i := 9) (v := .pointer (some ⟨R, 0, none⟩)) 40 rfl rfl (by kernel_rfl) (by kernel_rfl) (by kernel_rfl) (fun _ _ _ h => h) (by refine .inl ⟨by kernel_rfl, fun wx hx => ?_⟩; subst hx; unfold execOp; go_simp) rfl ?_
              simp only [Act.put, Act.eval, List.setIfInBounds_toArray, List.set_cons_succ, List.set_cons_zero]
              refine pk_take (fuel := 18) (i := 10) (v := .pointer (some ⟨R, 0, none⟩)) 41 rfl rfl (by kernel_rfl) (by kernel_rfl) (by kernel_rfl) (fun _ _ _ h => h) (by refine .inl ⟨by kernel_rfl, fun wx hx => ?_⟩; subst hx; unfold execOp; go_simp) rfl ?_
              simp only [Act.put, Act.eval, List.setIfInBounds_toArray, List.set_cons_succ, List.set_cons_zero]
              refine pk_take (fuel := 17) (i := 11) (v := .slice (some ⟨NB, 0, none⟩) n n) 42 rfl rfl (by kernel_rfl) (by kernel_rfl) (by kernel_rfl) (fun _ _ _ h => h) (by refine .inl ⟨by kernel_rfl, fun wx hx => ?_⟩; subst hx; unfold execOp; go_simp) rfl ?_
              simp only [Act.put, Act.eval, List.setIfInBounds_toArray, List.set_cons_succ, List.set_cons_zero]
              refine pk_take (fuel := 16) (i := 12) 43 rfl rfl (by kernel_rfl) (by kernel_rfl) (by kernel_rfl) (fun _ _ _ h => h) (pk_move _ rfl (by kernel_rfl)) rfl ?_
              simp only [Act.put, Act.eval, List.setIfInBounds_toArray, List.set_cons_succ, List.set_cons_zero]
              refine pk_take (fuel := 15) (i := 13) (v := .pointer (some ⟨NB, i * 16, none⟩)) 44 rfl rfl (by kernel_rfl) (by kernel_rfl) (by kernel_rfl) (fun _ _ _ h => h) (by refine .inl ⟨by kernel_rfl, fun wx hx => ?_⟩; subst hx; unfold execOp; go_simp) rfl ?_
              simp only [Act.put, Act.eval, List.setIfInBounds_toArray, List.set_cons_succ, List.set_cons_zero]
              refine pk_take (fuel := 14) (i := 14) (v := .agg p.cs) 45 rfl rfl (by kernel_rfl) (by kernel_rfl) (by kernel_rfl) (fun _ _ _ h => h) (pk_page_at _ rfl (by kernel_rfl) NB (i * 16) p rfl (fun w h => h ▸ P1.out)) rfl ?_
              simp only [Act.put, Act.eval, List.setIfInBounds_toArray, List.set_cons_succ, List.set_cons_zero]
              refine pk_take (fuel := 13) (i := 15) (v := .bool (!(pgB p p))) 46 rfl rfl (by kernel_rfl) (by kernel_rfl) (by kernel_rfl) (fun _ _ _ h => h) (pk_neq _ _ _ rfl (by kernel_rfl) p p rfl rfl) rfl ?_
              simp only [Act.put, Act.eval, List.setIfInBounds_toArray, List.set_cons_succ, List.set_cons_zero]
              rw [pgB_self]
              simp only [Bool.not_true]
              refine pk_take (fuel := 12) (i := 16) (v := .bool false) 47 rfl rfl (by kernel_rfl) (by kernel_rfl) (by kernel_rfl) (fun _ _ _ h => h) (by refine .inl ⟨by kernel_rfl, fun wx hx => ?_⟩; subst hx; unfold execOp; go_simp) rfl ?_
              simp only [Act.put, Act.eval, List.setIfInBounds_toArray, List.set_cons_succ, List.set_cons_zero]
              refine pk_take (fuel := 11) (i := 17) 48 rfl rfl (by kernel_rfl) (by kernel_rfl) (by kernel_rfl) (fun _ _ _ h => h) (pk_move _ rfl (by kernel_rfl)) rfl ?_
              simp only [Act.put, Act.eval, List.setIfInBounds_toArray, List.set_cons_succ, List.set_cons_zero]
              refine pk_take (fuel := 10) (i := 18) 49 rfl rfl (by kernel_rfl) (by kernel_rfl) (by kernel_rfl) (fun _ _ _ h => h) (pk_move _ rfl (by kernel_rfl)) rfl ?_
              simp only [Act.put, Act.eval, List.setIfInBounds_toArray, List.set_cons_succ, List.set_cons_zero]
              refine pk_take (fuel := 9) (i := 19) 50 rfl rfl (by kernel_rfl) (by kernel_rfl) (by kernel_rfl) (fun _ _ _ h => h) (pk_move _ rfl (by kernel_rfl)) rfl ?_
              simp only [Act.put, Act.eval, List.setIfInBounds_toArray, List.set_cons_succ, List.set_cons_zero]
              refine pk_take (fuel := 8) (i := 20) (v := .pointer (some ⟨R, 0, none⟩)) 51 rfl rfl (by kernel_rfl) (by kernel_rfl) (by kernel_rfl) (fun _ _ _ h => h) (by refine .inl ⟨by kernel_rfl, fun wx hx => ?_⟩; subst hx; unfold execOp; go_simp) rfl ?_
              simp only [Act.put, Act.eval, List.setIfInBounds_toArray, List.set_cons_succ, List.set_cons_zero]
              refine pk_take (fuel := 7) (i := 21) (v := .pointer (some ⟨R, 1, none⟩)) 52 rfl rfl (by kernel_rfl) (by kernel_rfl) (by kernel_rfl) (fun _ _ _ h => h) (by refine .inl ⟨by kernel_rfl, fun wx hx => ?_⟩; subst hx; unfold execOp; go_simp) rfl ?_
              simp only [Act.put, Act.eval, List.setIfInBounds_toArray, List.set_cons_succ, List.set_cons_zero]
              refine pk_take (fuel := 6) (i := 22) (v := .slice (some ⟨Z, 0, none⟩) n n) 53 rfl rfl (by kernel_rfl) (by kernel_rfl) (by kernel_rfl) (fun _ _ _ h => h) (by refine .inl ⟨by kernel_rfl, fun wx hx => ?_⟩; subst hx; unfold execOp; go_simp) rfl ?_
              simp only [Act.put, Act.eval, List.setIfInBounds_toArray, List.set_cons_succ, List.set_cons_zero]
              refine pk_take (fuel := 5) (i := 23) 54 rfl rfl (by kernel_rfl) (by kernel_rfl) (by kernel_rfl) (fun _ _ _ h => h) (pk_move _ rfl (by kernel_rfl)) rfl ?_
              simp only [Act.put, Act.eval, List.setIfInBounds_toArray, List.set_cons_succ, List.set_cons_zero]
              refine pk_take (fuel := 4) (i := 24) (v := .pointer (some ⟨Z, i, none⟩)) 55 rfl rfl (by kernel_rfl) (by kernel_rfl) (by kernel_rfl) (fun _ _ _ h => h) (by refine .inl ⟨by kernel_rfl, fun wx hx => ?_⟩; subst hx; unfold execOp; go_simp) rfl ?_
              simp only [Act.put, Act.eval, List.setIfInBounds_toArray, List.set_cons_succ, List.set_cons_zero]
              refine pk_take (fuel := 3) (i := 25) (v := .int .i64 (s : Int)) 56 rfl rfl (by kernel_rfl) (by kernel_rfl) (by kernel_rfl) (fun _ _ _ h => h) (by refine .inl ⟨by kernel_rfl, fun wx hx => ?_⟩; subst hx; unfold execOp; go_simp) rfl ?_
              simp only [Act.put, Act.eval, List.setIfInBounds_toArray, List.set_cons_succ, List.set_cons_zero]
              refine pk_take (fuel := 2) (i := 26) (v := .int .u64 (s : Int)) 57 rfl rfl (by kernel_rfl) (by kernel_rfl) (by kernel_rfl) (fun _ _ _ h => h) (by refine .inl ⟨by kernel_rfl, fun wx hx => ?_⟩; subst hx; unfold execOp; go_simp) rfl ?_
              simp only [Act.put, Act.eval, List.setIfInBounds_toArray, List.set_cons_succ, List.set_cons_zero]
              refine pk_take (fuel := 1) (i := 27) (v := .bool false) 58 rfl rfl (by kernel_rfl) (by kernel_rfl) (by kernel_rfl) (fun _ _ _ h => h) (by refine .inl ⟨by kernel_rfl, fun wx hx => ?_⟩; subst hx; unfold execOp; go_simp) rfl ?_
              simp only [Act.put, Act.eval, List.setIfInBounds_toArray, List.set_cons_succ, List.set_cons_zero]
              refine pk_take (fuel := 0) (i := 28) (v := .bool false) 59 rfl rfl (by kernel_rfl) (by kernel_rfl) (by kernel_rfl) (fun _ _ _ h => h) (by refine .inl ⟨by kernel_rfl, fun wx hx => ?_⟩; subst hx; unfold execOp; go_simp) rfl ?_
              simp only [Act.put, Act.eval, List.setIfInBounds_toArray, List.set_cons_succ, List.set_cons_zero]
              refine wpAnyH_done (by kernel_rfl) ?_ _
              (try simp only [Act.put, Act.eval, List.setIfInBounds_toArray, List.set_cons_succ, List.set_cons_zero])
              clear HWV P0 P1 z0 z1 z2 hwr RV
              go_wp2
              go_roundw
              case rel => exact ⟨i + 1, by have := HLT.out; omega, by go_num, BV.out⟩
              case measure => have := HLT.out; simp [intOf]; omega
    · obtain rfl : i = n := by omega
      clear hlt hi hb
      go_wp2
      go_ret
      exact ⟨rfl, BW.out⟩
end Go.Proofs.Ytgafajbdmegfgaa
namespace Go.Proofs.Ytgafajbdmegfgaa
open Go.RowKit

section
variable {P : Program} {ops : Array Oper} {Q : Exit → Act → World → Prop} {K : Act → World → Prop} {i : Nat} {o : Oper} {a : Act} {w : World}
theorem pk_call (hi : ops[i]? = some o) (hw : Region.wanted o (yielded ops a.tmps) = true) (d : Nat) (hd : o.dst = some d) (f : FuncId) (args : Array Value) (hr : (execOp a.eval o).run P w = .ok (.enter f args) w)
    (h : Calls P f args w fun e w' => ∃ v, e = .returned v ∧ K (a.put (some d) v) w') : wpOp P ops Q i K a w := by
  refine pk_wp hi hw ?_
  unfold Oper.wp
  rw [hr]
  simp only [Oper.upon]
  refine h.mono fun e w' ⟨v, he, hk⟩ => ?_
  subst he
  simp only [hd]
  exact hk
end
section
variable {ops : Array Oper} {K : Act → World → Prop} {o : Oper} {a : Act} {w : World}
theorem pk_cpp {S : World → Prop} (y : Operand) (ho : o.op = .load 40 y) (hw : Region.wanted o (yielded ops a.tmps) = true) (b : Nat) (s : Cp) (hx : a.eval y = .pointer (some ⟨b, 2, none⟩)) (hS : ∀ w, S w → Bk w b 42 s.cs) : YieldsIf Try.prog ops S o (.agg s.p.cs) a :=
  pk_page_at y ho hw b 2 s.p hx fun w h i v hv => by
    rw [(hS w h).cell]
    have hi : i < 16 := (List.getElem?_eq_some_iff.1 hv).1
    have : s.cs[2 + i]? = s.p.cs.toList[i]? := by
      rw [← Array.getElem?_toList]
      show (Value.int .i64 s.k :: .int .i64 s.id :: (s.p.cs.toList ++ [.string s.v]))[2 + i]? = _
      rw [Nat.add_comm, List.getElem?_cons_succ, List.getElem?_cons_succ, List.getElem?_append_left (by show i < 16; exact hi)]
    rw [this]; exact hv
end
/-- The pool and the document's pages, side by side. -/
structure RnI (w0 w : World) (B gd gl gp pn fr F q R NB Z : Nat) (Now : Nat → Pg) (St : Nat → Nat) (ps : List Pg) (st : List Nat) (cl : Prop) : Prop where
  vz : Vz w B gd gl gp pn fr F q Now St Z cl
  rf : Rf w B R NB Z pn ps st
  eq : ∀ i, i < pn → ∃ p, ps[i]? = some p ∧ p.cs = (Now i).cs
  es : ∀ i, i < pn → st[i]? = some (St i)
  bw : Below w0.heap.size w0 w
section
variable {w0 w w' : World} {B gd gl gp pn fr F q R NB Z : Nat} {Now : Nat → Pg} {St : Nat → Nat} {ps : List Pg} {st : List Nat} {cl : Prop}
theorem RnI.hz (h : RnI w0 w B gd gl gp pn fr F q R NB Z Now St ps st cl) : ∃ cs, Bk w Z 3 cs := ⟨_, h.rf.stp⟩
theorem RnI.kept (h : RnI w0 w B gd gl gp pn fr F q R NB Z Now St ps st cl) (hb : Below w.heap.size w w') : RnI w0 w' B gd gl gp pn fr F q R NB Z Now St ps st cl :=
  ⟨h.vz.kept hb, h.rf.kept hb, h.eq, h.es, below_then h.bw hb h.bw.size⟩
theorem RnI.alloc (h : RnI w0 w B gd gl gp pn fr F q R NB Z Now St ps st cl) (o : Obj) : RnI w0 (w.alloc o) B gd gl gp pn fr F q R NB Z Now St ps st cl := h.kept ((Below.refl w.heap.size w).alloc (Nat.le_refl _) o)
theorem RnI.weak (h : RnI w0 w B gd gl gp pn fr F q R NB Z Now St ps st cl) {q' : Nat} (hq : q ≤ q') {cl' : Prop} (hc : cl' → cl) : RnI w0 w B gd gl gp pn fr F q' R NB Z Now St ps st cl' := ⟨h.vz.weak hq hc, h.rf, h.eq, h.es, h.bw⟩
theorem Rf.out (h : Rf w B R NB Z pn ps st) (ho : Out w w' (PZ B Z w)) : Rf w' B R NB Z pn ps st := by
  have hk : ∀ {k : Nat} {t : TypeId} {cs : Array Value}, Bk w k t cs → ¬ plI t → Bk w' k t cs := fun {k t cs} hb ht => ho.bk hb fun hp => by
    obtain ⟨⟨-, t2, cs2, hc, h2⟩, -⟩ := hp
    have e : t = t2 := Classical.byContradiction fun hne => Bk.ne_ hb hc hne rfl
    exact ht (e ▸ h2)
  exact ⟨hk h.box (by unfold plI plT; decide), hk h.now (by unfold plI plT; decide), ho.bk h.stp fun hp => hp.2 rfl, h.pl, h.sl, h.bb⟩
theorem pz_below (ho : Out w w' (PZ B Z w)) (hB : B ≤ w.heap.size) : Below B w w' := ho.below hB fun k hk => hk.1.1
/-- Behind a call of the pool's. -/
theorem RnI.pool {F2 q2 : Nat} {cl2 : Prop} (h : RnI w0 w B gd gl gp pn fr F q R NB Z Now St ps st cl) (hv : Vz w' B gd gl gp pn fr F2 q2 Now St Z cl2) (ho : Out w w' (PZ B Z w)) (sb : w0.heap.size ≤ B) : RnI w0 w' B gd gl gp pn fr F2 q2 R NB Z Now St ps st cl2 :=
  ⟨hv, h.rf.out ho, h.eq, h.es, h.bw.trans ((pz_below ho h.vz.hB).mono sb)⟩
/-- Behind both Puts. -/
theorem RnI.put {w2 : World} {q2 : Nat} {id : Int} {x : Pg} {sx : Nat} (h : RnI w0 w B gd gl gp pn fr F q R NB Z Now St ps st cl) (hg : putGood pn id x) (hv : Vz w' B gd gl gp pn fr F q2 (updN Now id.toNat x) (updN St id.toNat sx) Z False) (ho : Out w w' (PZ B Z w)) (hr : Rf w2 B R NB Z pn (ps.set id.toNat x) (st.set id.toNat sx)) (ho2 : Out w' w2 (RfP NB Z)) (sb : w0.heap.size ≤ B) :
    RnI w0 w2 B gd gl gp pn fr F q2 R NB Z (updN Now id.toNat x) (updN St id.toNat sx) (ps.set id.toNat x) (st.set id.toNat sx) False := by
  have hr1 := h.rf.out ho
  have hlt : id.toNat < pn := by have := hg.1; have := hg.2.1; omega
  refine ⟨hv.other ⟨_, hr1.stp⟩ ho2.size fun k t cs hc ht hne => ho2.block k hc.lt fun hp => ?_, hr, fun i hi => ?_, fun i hi => ?_, (h.bw.trans ((pz_below ho h.vz.hB).mono sb)).trans ((ho2.below (Nat.le_trans h.vz.hB ho.size) fun k hk => ?_).mono sb)⟩
  · rcases hp with rfl | rfl
    · have e : t = 40 := Classical.byContradiction fun hne => Bk.ne_ hc hr1.now hne rfl
      subst e
      revert ht
      unfold plI plT
      decide
    · exact hne rfl
  · by_cases e : i = id.toNat
    · subst e
      exact ⟨x, List.getElem?_set_self (by rw [h.rf.pl]; exact hi), by rw [updN_at]⟩
    · obtain ⟨p, h1, h2⟩ := h.eq i hi
      exact ⟨p, by rw [List.getElem?_set_ne (Ne.symm e)]; exact h1, by rw [updN_ne _ _ e]; exact h2⟩
  · by_cases e : i = id.toNat
    · subst e
      rw [List.getElem?_set_self (by rw [h.rf.sl]; exact hi), updN_at]
    · rw [List.getElem?_set_ne (Ne.symm e), updN_ne _ _ e]; exact h.es i hi
  · rcases hk with rfl | rfl
    · exact h.rf.bb.2.1
    · exact h.rf.bb.2.2
theorem RnI.putno {w2 : World} {q2 : Nat} (h : RnI w0 w B gd gl gp pn fr F q R NB Z Now St ps st cl) (hv : Vz w' B gd gl gp pn fr F q2 Now St Z cl) (ho : Out w w' (PZ B Z w)) (hr : Rf w2 B R NB Z pn ps st) (ho2 : Out w' w2 (RfP NB Z)) (sb : w0.heap.size ≤ B) :
    RnI w0 w2 B gd gl gp pn fr F q2 R NB Z Now St ps st cl := by
  have hr1 := h.rf.out ho
  refine ⟨hv.other ⟨_, hr1.stp⟩ ho2.size fun k t cs hc ht hne => ho2.block k hc.lt fun hp => ?_, hr, h.eq, h.es, (h.bw.trans ((pz_below ho h.vz.hB).mono sb)).trans ((ho2.below (Nat.le_trans h.vz.hB ho.size) fun k hk => ?_).mono sb)⟩
  · rcases hp with rfl | rfl
    · have e : t = 40 := Classical.byContradiction fun hne => Bk.ne_ hc hr1.now hne rfl
      subst e
      revert ht
      unfold plI plT
      decide
    · exact hne rfl
  · rcases hk with rfl | rfl
    · exact h.rf.bb.2.1
    · exact h.rf.bb.2.2
/-- What both Gets answer. -/
theorem RnI.get (h : RnI w0 w B gd gl gp pn fr F q R NB Z Now St ps st cl) (id : Int) : ∃ (x : Pg) (er : Int), (er = 0 ∨ er = 1) ∧ (0 ≤ id → id < pn → er = 0) ∧
    ∀ e : Ending, (0 ≤ id ∧ id < (pn : Int) ∧ e = .returned (.tuple #[.agg (Now id.toNat).cs, .int .i64 0]) ∨ ¬ (0 ≤ id ∧ id < (pn : Int)) ∧ e = .returned (.tuple #[.agg Pg.zero.cs, .int .i64 1])) → e = .returned (.tuple #[.agg x.cs, .int .i64 er]) := by
  by_cases hid : 0 ≤ id ∧ id < (pn : Int)
  · exact ⟨Now id.toNat, 0, .inl rfl, fun _ _ => rfl, fun e he => by
      rcases he with ⟨-, -, rfl⟩ | ⟨h2, -⟩
      · rfl
      · exact absurd hid h2⟩
  · exact ⟨Pg.zero, 1, .inr rfl, fun h1 h2 => absurd ⟨h1, h2⟩ hid, fun e he => by
      rcases he with ⟨h1, h2, -⟩ | ⟨-, rfl⟩
      · exact absurd ⟨h1, h2⟩ hid
      · rfl⟩
theorem RnI.get2 (h : RnI w0 w B gd gl gp pn fr F q R NB Z Now St ps st cl) (id : Int) {e : Ending} (he : RfG pn ps id e) : (0 ≤ id ∧ id < (pn : Int) ∧ e = .returned (.tuple #[.agg (Now id.toNat).cs, .int .i64 0]) ∨ ¬ (0 ≤ id ∧ id < (pn : Int)) ∧ e = .returned (.tuple #[.agg Pg.zero.cs, .int .i64 1])) := by
  rcases he with ⟨hk, h0, h1, rfl⟩ | ⟨h1, rfl⟩
  · left
    refine ⟨h0, h1, ?_⟩
    obtain ⟨p, h2, h3⟩ := h.eq id.toNat (by omega)
    rw [List.getElem?_eq_getElem hk] at h2
    injection h2 with h2
    rw [h2, h3]
  · exact .inr ⟨h1, rfl⟩
end
end Go.Proofs.Ytgafajbdmegfgaa
