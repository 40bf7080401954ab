/- PoolAgain: a pool over the elder one's device, and a page spoiled. -/
import Derived.Test.YtgafajbdmegfgaaPolFrLib
import Derived.Laws.IdiomStrings
set_option linter.unusedVariables false
set_option linter.unusedSimpArgs false
namespace Go.Proofs.Ytgafajbdmegfgaa
open Go.RowKit

/-- A block of bytes that may be written. -/
def Byt (w : World) (g : Nat) (d : ByteArray) : Prop := ∃ (C : Array Value) (lo hi : Nat), w.heap[g]? = some (.cells C 5 (lo, hi)) ∧ (d.size ≤ lo ∨ hi = 0) ∧ ∀ j, j < d.size → C[j]? = some (.int .u8 (d.data.getD j 0).toNat)
namespace Byt
variable {w w' : World} {g : Nat} {d : ByteArray}
theorem lt (h : Byt w g d) : g < w.heap.size := by obtain ⟨C, lo, hi, h, _⟩ := h; exact (Array.getElem?_eq_some_iff.1 h).1
theorem cell (h : Byt w g d) {j : Nat} (hj : j < d.size) : w.cell? ⟨g, j, none⟩ = some (.int .u8 (d.data.getD j 0).toNat) := by
  obtain ⟨C, lo, hi, h, _, hc⟩ := h
  rw [World.cell?, h]
  exact hc j hj
theorem fz (h : Byt w g d) {j : Nat} (hj : j < d.size) : w.frozen? ⟨g, j, none⟩ = false := by
  obtain ⟨C, lo, hi, h, hl, _⟩ := h
  rw [World.frozen?, h]
  simp
  omega
theorem kept (h : Byt w g d) (hb : Below w.heap.size w w') : Byt w' g d := by
  have hlt := h.lt
  obtain ⟨C, lo, hi, h, r⟩ := h
  exact ⟨C, lo, hi, (hb.block g hlt).trans h, r⟩
theorem set (h : Byt w g d) (b : Nat) (x : UInt8) (hb : b < d.size) : Byt (w.setCell ⟨g, b, none⟩ (.int .u8 x.toNat)) g ⟨d.data.setIfInBounds b x⟩ := by
  obtain ⟨C, lo, hi, h, hl, hc⟩ := h
  have hbd : b < d.data.size := hb
  have hsz : ByteArray.size ⟨d.data.setIfInBounds b x⟩ = d.size := Array.size_setIfInBounds
  refine ⟨C.setIfInBounds b (.int .u8 x.toNat), lo, hi, by simp [World.setCell, Array.getElem?_modify, h], by rw [hsz]; exact hl, fun j hj => ?_⟩
  rw [hsz] at hj
  have hcb : b < C.size := by
    have := hc b hb
    exact (Array.getElem?_eq_some_iff.1 this).1
  by_cases e : j = b
  · subst e
    rw [Array.getElem?_setIfInBounds_self_of_lt hcb, Array.getD_eq_getD_getElem?, Array.getElem?_setIfInBounds_self_of_lt hbd]
    rfl
  · rw [Array.getElem?_setIfInBounds_ne (Ne.symm e), Array.getD_eq_getD_getElem?, Array.getElem?_setIfInBounds_ne (Ne.symm e), ← Array.getD_eq_getD_getElem?]
    exact hc j hj
end Byt
section
variable {ops : Array Oper} {rest : List Oper} {o : Oper} {a : Act} {w : World} {Q : Exit → Act → World → Prop}
theorem conv_bytes (hg : o.guard = none) (x : Operand) (ho : o.op = .convert 9 61 x) (d : ByteArray) (hx : a.eval x = .string d)
    (h : ∀ cap w1, Below w.heap.size w w1 → Byt w1 w.heap.size d → wpList Try.prog ops Q rest (a.put o.dst (.slice (some ⟨w.heap.size, 0, none⟩) d.size cap)) w1) : wpList Try.prog ops Q (o :: rest) a w := by
  refine wpList_plain hg fun K' hK' => ?_
  have hr := run_bytes_of_string (P := Try.prog) w 9 61 5 d Try.underlying9 Try.underlying61 Try.underlying5
  unfold Oper.wp execOp
  simp only [ho, hx, Sem.run_bind, Sem.run_pure, Result.andThen_ok, hr]
  refine hK' _ _ (h _ _ ((Below.refl _ _).drew.alloc (Nat.le_refl _) _) ⟨_, _, _, heap_alloc_new w.drew _, ?_, fun j hj => ?_⟩)
  · left
    have hd : d.data.size = d.size := rfl
    simp [bytesRow, hd]
  · have hjd : j < d.data.size := hj
    simp [bytesRow, Array.getElem?_append, Array.getD_eq_getD_getElem?]
    rw [if_pos hj, Array.getElem?_eq_getElem hjd]
    rfl
theorem conv_back (hg : o.guard = none) (x : Operand) (ho : o.op = .convert 61 9 x) (g : Nat) (d : ByteArray) (n cap : Nat) (hn : n = d.size) (hx : a.eval x = .slice (some ⟨g, 0, none⟩) n cap) (hb : Byt w g d)
    (h : wpList Try.prog ops Q rest (a.put o.dst (.string d)) w) : wpList Try.prog ops Q (o :: rest) a w := by
  subst hn
  refine wpList_plain hg fun K' hK' => ?_
  have hr := run_convert_bytes_back (P := Try.prog) w 61 9 5 ⟨g, 0, none⟩ cap d.data.toList Try.underlying61 Try.underlying5 Try.underlying9 (fun j hj => by
    rw [Addr.add_lit, Nat.zero_add]
    have hj' : j < d.size := by simpa using hj
    rw [hb.cell hj', Array.getD_eq_getD_getElem?, ← Array.getElem?_toList, List.getElem?_eq_getElem hj]
    rfl)
  have hl : d.data.toList.length = d.size := Array.length_toList
  rw [hl] at hr
  unfold Oper.wp execOp
  simp only [ho, hx, Sem.run_bind, Sem.run_pure, Result.andThen_ok, hr]
  exact hK' _ _ h
end
/-- An array of pages. -/
def PArr (w : World) (g : Nat) (t : TypeId) (ps : List Pg) : Prop := Bk w g t (flatPg ps).toArray
namespace PArr
variable {w w' : World} {g : Nat} {t : TypeId} {ps : List Pg}
theorem range (h : PArr w g t ps) {i : Nat} {p : Pg} (hi : ps[i]? = some p) : w.rangeAt g (i * 16) p.cs.toList := fun j v hv => by
  have hj : j < 16 := by have := (List.getElem?_eq_some_iff.1 hv).1; rwa [pg_len] at this
  rw [Bk.cell h, List.getElem?_toArray, flat_get ps i p hi j hj]
  simpa using hv
theorem there (h : PArr w g t ps) {i : Nat} (hi : i < ps.length) : w.there g (i * 16) 16 := fun j hj => by
  refine ⟨?_, Bk.fz h _⟩
  rw [Bk.cell h, List.getElem?_toArray, flat_get ps i _ (List.getElem?_eq_getElem hi) j hj, Array.getElem?_eq_getElem (show j < (ps[i]).cs.size from hj)]
  rfl
theorem set (h : PArr w g t ps) (i : Nat) (p : Pg) (hi : i < ps.length) : PArr (w.setCells g (i * 16) p.cs.toList) g t (ps.set i p) := by
  have := Bk.lays p.cs.toList w _ (i * 16) h
  unfold PArr
  rw [← flat_set ps i p hi]
  exact this
end PArr
section
variable {ops : Array Oper} {rest : List Oper} {o : Oper} {a : Act} {w : World} {Q : Exit → Act → World → Prop}
theorem store_arr_at (hgd : o.guard = none) (x y : Operand) (ho : o.op = .store 40 x y) (g : Nat) (t : TypeId) (ps : List Pg) (i : Nat) (p : Pg) (hi : i < ps.length) (hx : a.eval x = .pointer (some ⟨g, i * 16, none⟩)) (hy : a.eval y = .agg p.cs) (hr : PArr w g t ps)
    (h : PArr (w.setCells g (i * 16) p.cs.toList) g t (ps.set i p) → wpList Try.prog ops Q rest (a.put o.dst undef) (w.setCells g (i * 16) p.cs.toList)) : wpList Try.prog ops Q (o :: rest) a w :=
  wpList_store_mid hgd 40 x y ho g (i * 16) p.cs hx hy (hr.there hi) (by rw [show p.cs.size = 16 from rfl]; kernel_rfl) (by unfold Pg.cs; simp [Value.oneCell']) (h (hr.set i p hi))
end
section
variable {w w' : World} {B gd gl gp pages frames F q : Nat} {Now : Nat → Pg} {St : Nat → Nat}
/-- A pool over what the device has. -/
theorem vw_again (h : Vw w B gd gl gp pages frames F q Now St (fun _ => False)) (fr2 : Nat) (h3 : 4 ≤ fr2) (h4 : fr2 ≤ 256) :
    Calls Try.prog 10 #[.pointer (some ⟨gd, 0, none⟩), .pointer (some ⟨gl, 0, none⟩), .int .i64 128, .int .i64 (pages : Int), .int .i64 (fr2 : Int)] w fun e w' => ∃ gq, e = .returned (.tuple #[.pointer (some ⟨gq, 0, none⟩), .int .i64 0]) ∧ Vw w' B gd gl gq pages fr2 F q Now St (fun _ => False) ∧ Below w.heap.size w w' := by
  obtain ⟨I, J, P, L, S, hp, rfl, rfl, h3', e4, rfl, h6, h7, h8, h9, h10, h11, h12⟩ := h
  have hfit := hp.pv.fit
  rw [e4] at hfit
  refine (pnew_good hp.wl 128 P.pages fr2 hp.pq.ok.p1 hp.pq.ok.p2 h3 h4 hfit hp.hB).mono ?_
  rintro e w' ⟨g, rfl, hq, hb⟩
  refine ⟨g, rfl, ⟨I, _, _, L, S, ⟨hp.wl.kept hb, hq, rfl, rfl, ?_, by show L.first + L.n ≤ 128; rw [h9, h10]; decide, Nat.le_trans hp.hB hb.size⟩, rfl, rfl, rfl, rfl, rfl, rfl, h7, h8, h9, h10, h11, fun x hx => by cases hx⟩, hb⟩
  exact {
    run := hp.pv.run
    nl := hp.pv.nl
    fit := hfit
    dev := fun i hi => by
      obtain ⟨d, t, hat, hc⟩ := hp.pv.dev i hi
      rw [e4] at hat
      refine ⟨d, t, hat, .inl ?_⟩
      rcases hc with hc | ⟨j, s, hs, hid, hd⟩
      · exact hc
      · exact (h12 s.id (dirtyL_mem.2 ⟨s, List.mem_of_getElem? hs, hd, rfl⟩)).elim
    sl := fun j s hs => by
      change ([] : List Sl)[j]? = some s at hs
      simp at hs }
theorem mark_of {n : Nat} : (Fr.mk n).size = 8 := Fr.mk_size n
/-- A sector as the device has it. -/
theorem vw_sector (h : Vw w B gd gl gp pages frames F q Now St (fun _ => False)) (m : Nat) (hm : m < 4 * pages) :
    ∃ d : Pg, d.ok ∧ Calls Try.prog 20 #[.pointer (some ⟨gd, 0, none⟩), .int .i64 (128 + (m : Int))] w fun e w' => e = .returned (.tuple #[.string (Fr.sec d.bytes (Fr.mk (St (m / 4))) (m % 4)), .int .i64 0]) ∧ w' = w := by
  obtain ⟨I, J, P, L, S, hp, rfl, rfl, h3', e4, rfl, h6, h7, h8, h9, h10, h11, h12⟩ := h
  have hfit := hp.pv.fit
  rw [e4] at hfit
  obtain ⟨d, t, hat, hc⟩ := hp.pv.dev (m / 4) (by omega)
  rw [e4] at hat
  have ht : t = St (m / 4) := by
    rcases hc with hc | ⟨j, s, hs, hid, hd⟩
    · exact hc.2
    · exact (h12 s.id (dirtyL_mem.2 ⟨s, List.mem_of_getElem? hs, hd, rfl⟩)).elim
  subst ht
  refine ⟨d, hat.ok, (read_any hp.wl.dsk (128 + (m : Int))).mono ?_⟩
  rintro e w' ⟨rfl, rfl⟩
  have hr : S.read (128 + (m : Int)) = (Fr.sec d.bytes (Fr.mk (St (m / 4))) (m % 4), 0) := by
    unfold Dsk.read
    rw [if_neg (by rw [hp.pv.run.1]; decide), if_pos ⟨by omega, by omega⟩, ← hat.at_ (m % 4) (by omega)]
    congr 2
    omega
  rw [hr]
  exact ⟨rfl, rfl⟩
/-- A page of the device is torn. -/
def Sd (w : World) (B gd gl pages id : Nat) : Prop := ∃ (I : Wd) (L : Lg) (S : Dsk), Wl w B I L S ∧ I.g = gl ∧ I.d.g = gd ∧ B ≤ w.heap.size ∧ 128 + 4 * pages ≤ S.firm.length ∧ 1 ≤ pages ∧ pages ≤ 1024 ∧ loadP S 128 id = (Pg.zero, 30)
def Sq (w : World) (B gq pages id : Nat) : Prop := ∃ (I : Wd) (J : Pd) (P : Po) (L : Lg) (S : Dsk), Wl w B I L S ∧ Pq w B J P ∧ J.dp = I.d.ptr ∧ J.g = gq ∧ P.base = 128 ∧ P.pages = pages ∧ P.ss = [] ∧ B ≤ w.heap.size ∧ 128 + 4 * pages ≤ S.firm.length ∧ loadP S 128 id = (Pg.zero, 30)
theorem vw_spoil (h : Vw w B gd gl gp pages frames F q Now St (fun _ => False)) (hq : q ≤ 1099511627776) (m : Nat) (hm : m < 4 * pages) (s : ByteArray) (hs : s.size = 64) (ht : Fr.tl s ≠ Fr.mk (St (m / 4))) :
    Calls Try.prog 21 #[.pointer (some ⟨gd, 0, none⟩), .int .i64 (128 + (m : Int)), .string s] w fun e w' => (∃ er : Int, e = .returned (.int .i64 er)) ∧ Sd w' B gd gl pages (m / 4) ∧ Below B w w' := by
  obtain ⟨I, J, P, L, S, hp, rfl, rfl, h3', e4, rfl, h6, h7, h8, h9, h10, h11, h12⟩ := h
  have hfit := hp.pv.fit
  rw [e4] at hfit
  refine (write_any hp.wl.dsk (128 + (m : Int)) s hp.hB (by omega)).mono ?_
  rintro e w' ⟨rfl, p', hd, ho⟩
  obtain ⟨e0, hg, hnow⟩ := pwrite_run hp.pv.run (128 + m) s (by omega) hs
  rw [show ((128 + m : Nat) : Int) = 128 + (m : Int) by omega] at e0 hg hnow
  have hw := hp.wl.disk hd ho
  generalize S.write (128 + (m : Int)) s = R at *
  obtain ⟨S', er⟩ := R
  dsimp only at *
  obtain ⟨d, t, hat, hc⟩ := hp.pv.dev (m / 4) (by omega)
  rw [e4] at hat
  have htt : t = St (m / 4) := by
    rcases hc with hc | ⟨j, s, hs, hid, hd⟩
    · exact hc.2
    · exact (h12 s.id (dirtyL_mem.2 ⟨s, List.mem_of_getElem? hs, hd, rfl⟩)).elim
  subst htt
  refine ⟨⟨er, rfl⟩, ⟨_, L, S', hw, rfl, rfl, Nat.le_trans hp.hB ho.size, by rw [hg.fl]; exact hfit, hp.pq.ok.p1, hp.pq.ok.p2, ?_⟩, ?_⟩
  · have hsec : ∀ k, k < 4 → secsOf S' 128 (m / 4) k = if k = m % 4 then s else Fr.sec d.bytes (Fr.mk (St (m / 4))) k := fun k hk => by
      unfold secsOf
      rw [hnow, getD_set _ _ _ _ (by rw [hp.pv.nl]; omega)]
      by_cases e : k = m % 4
      · rw [if_pos e, if_pos (by omega)]
      · rw [if_neg e, if_neg (by omega)]
        exact hat.at_ k hk
    have hb := bytes_size d hat.ok
    have hop := Fr.opened_torn (s := secsOf S' 128 (m / 4)) (fun k hk => by
      rw [hsec k hk]
      by_cases e : k = m % 4
      · rw [if_pos e]; exact hs
      · rw [if_neg e]; exact Fr.sec_size hb mark_of hk) (by
      by_cases e : m % 4 = 0
      · refine ⟨1, by omega, ?_⟩
        rw [hsec 1 (by omega), hsec 0 (by omega), if_neg (by omega), if_pos e.symm, Fr.sec_tl hb (by omega)]
        exact Ne.symm ht
      · refine ⟨m % 4, by omega, ?_⟩
        rw [hsec (m % 4) (by omega), hsec 0 (by omega), if_pos rfl, if_neg (Ne.symm e), Fr.sec_tl hb (by omega)]
        exact ht)
    unfold loadP
    rw [if_neg (by rw [hg.run.1]; decide), hop]
    rfl
  · refine ho.below hp.hB fun k hk => ?_
    rcases hk with rfl | rfl | rfl | hk
    · exact hp.wl.dsk.bg
    · exact hp.wl.dsk.bf
    · exact hp.wl.dsk.bn
    · exact (owns_block hp.wl.dsk.pend hk).1
theorem sd_new {id : Nat} (h : Sd w B gd gl pages id) (fr2 : Nat) (h3 : 4 ≤ fr2) (h4 : fr2 ≤ 256) :
    Calls Try.prog 10 #[.pointer (some ⟨gd, 0, none⟩), .pointer (some ⟨gl, 0, none⟩), .int .i64 128, .int .i64 (pages : Int), .int .i64 (fr2 : Int)] w fun e w' => ∃ gq, e = .returned (.tuple #[.pointer (some ⟨gq, 0, none⟩), .int .i64 0]) ∧ Sq w' B gq pages id ∧ Below w.heap.size w w' := by
  obtain ⟨I, L, S, hw, rfl, rfl, hB, hf, p1, p2, hl⟩ := h
  refine (pnew_good hw 128 pages fr2 p1 p2 h3 h4 hf hB).mono ?_
  rintro e w' ⟨g, rfl, hq, hb⟩
  exact ⟨g, rfl, ⟨I, _, _, L, S, hw.kept hb, hq, rfl, rfl, rfl, rfl, rfl, Nat.le_trans hB hb.size, hf, hl⟩, hb⟩
theorem sq_get {id gq : Nat} (h : Sq w B gq pages id) (hid : id < pages) :
    Calls Try.prog 12 #[.pointer (some ⟨gq, 0, none⟩), .int .i64 (id : Int)] w fun e w' => (∃ x : Pg, e = .returned (.tuple #[.agg x.cs, .int .i64 30])) ∧ Below B w w' := by
  obtain ⟨I, J, P, L, S, hw, hq, ed, rfl, eb, rfl, es, hB, hf, hl⟩ := h
  refine (pget_any hw.dsk hq ed id hid (by rw [eb]; exact hf) hB).mono ?_
  rintro e w' ⟨J', P', x, er, rfl, -, -, -, -, hr, ho⟩
  refine ⟨⟨x, ?_⟩, pf_below (sf_pf ho) hB⟩
  rw [← eb] at hl
  rcases hr with ⟨j, hj, -⟩ | ⟨-, -, -, -, rfl⟩ | ⟨-, h2, -⟩
  · rw [es] at hj; exact absurd hj (Nat.not_lt_zero j)
  · rw [hl]
  · rw [hl] at h2; cases h2
end
theorem xor_bit (x : UInt8) : bits .xor .u8 (x.toNat : Int) 1 = ((x ^^^ 1).toNat : Int) := by
  have : ∀ n : Fin 256, bits .xor .u8 (n.val : Int) 1 = (((UInt8.ofNat n.val) ^^^ 1).toNat : Int) := by decide +kernel
  have h := this ⟨x.toNat, UInt8.toNat_lt x⟩
  simpa using h
theorem xor_ne (x : UInt8) : x ^^^ 1 ≠ x := fun h => by
  have h2 : x ^^^ (x ^^^ 1) = x ^^^ x := by rw [h]
  rw [← UInt8.xor_assoc, UInt8.xor_self, UInt8.zero_xor] at h2
  exact absurd h2 (by decide)
theorem tl_turned (s : ByteArray) (hs : s.size = 64) : Fr.tl ⟨s.data.setIfInBounds 60 (s.data.getD 60 0 ^^^ 1)⟩ ≠ Fr.tl s := fun h => by
  have hd : s.data.size = 64 := hs
  have h1 : (Fr.tl ⟨s.data.setIfInBounds 60 (s.data.getD 60 0 ^^^ 1)⟩).data[4]? = (Fr.tl s).data[4]? := by rw [h]
  unfold Fr.tl at h1
  rw [ByteArray.data_extract, ByteArray.data_extract] at h1
  have e1 : ByteArray.size ⟨s.data.setIfInBounds 60 (s.data.getD 60 0 ^^^ 1)⟩ = 64 := by show (s.data.setIfInBounds _ _).size = 64; rw [Array.size_setIfInBounds]; exact hd
  rw [e1, hs, Array.getElem?_extract, Array.getElem?_extract] at h1
  simp [hd] at h1
  exact xor_ne _ h1
end Go.Proofs.Ytgafajbdmegfgaa
