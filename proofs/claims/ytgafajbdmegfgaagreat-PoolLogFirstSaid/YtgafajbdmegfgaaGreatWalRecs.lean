/- The walk of records. -/
import Derived.Test.YtgafajbdmegfgaaGreatWalCutRow
import Derived.Deep.LoopGhost
import Derived.RegionTactic
import Derived.BigRegion
set_option linter.unusedVariables false
set_option linter.unusedSimpArgs false
namespace Go.Proofs.YtgafajbdmegfgaaGreat
open Go.RowKit

/-- A log, while a row of another type grows. -/
theorem Wm.grown {w w' : World} {B : Nat} {I : Wd} {L : Lg} {S : Dsk} (h : Wm w B I L S) {row : Option Nat} (hg : w.grownBy w' row) (hr : ∀ k, row = some k → ∃ cur, Bk w k 61 cur) : Wm w' B I L S :=
  ⟨h.box.grown hg (fun e => by obtain ⟨cur, hc⟩ := hr _ e.symm; exact Bk.ne_ h.box hc (by decide) rfl), h.bg,
    h.dsk.grown hg (fun j hj => by obtain ⟨cur, hc⟩ := hr j hj; exact ⟨_, cur, hc, by decide, by decide, by decide⟩),
    own_grown h.dat hg hr (by decide), own_grown h.plc hg hr (by decide)⟩
/-- A record's place more. -/
theorem Wm.placed {w w' : World} {B g : Nat} {d : Ids} {dv pv a : Value} {L : Lg} {S : Dsk} {k : Nat} (h : Wm w B ⟨g, d, dv, pv⟩ L S) (hB : B ≤ w.heap.size) (hown : w'.ownsRow B 3 1 a (L.places.length + 1) (ints L.places ++ [.int .i64 (k : Int)])) (hgrow : w.grownBy w' pv.ownBlock) :
    Wm (w'.setCell ⟨g, 7, none⟩ a) B ⟨g, d, dv, a⟩ { L with places := L.places ++ [k] } S ∧ Below B w (w'.setCell ⟨g, 7, none⟩ a) := by
  have b := bk_grown h.box h.plc hgrow (by decide)
  have e : ints L.places ++ [.int .i64 (k : Int)] = ints (L.places ++ [k]) := by unfold ints; simp
  rw [e] at hown
  exact ⟨⟨b.set 7 _, h.bg, (dk_grown h.dsk h.plc hgrow (by decide) (by decide) (by decide)).far (p := ⟨g, 7, none⟩) b (by decide) (by decide) (by decide) _, own_far (own_grown' h.dat h.plc hgrow (by decide)) (p := ⟨g, 7, none⟩) b (by decide) _, by
      show (w'.setCell ⟨g, 7, none⟩ a).ownsRow B 3 1 a (L.places ++ [k]).length _
      rw [List.length_append]; exact own_far hown (p := ⟨g, 7, none⟩) b (by decide) _⟩,
    ((Below.refl _ _).grown hgrow hB (fun j hj => (owns_block h.plc hj).1)).setCell (p := ⟨g, 7, none⟩) h.bg _⟩
theorem Tryz.info61 : (Tryz.prog.info? 61).map (fun i => (i.zero, i.size, i.bytes)) = some (some (.agg #[.int .i64 0, .string ⟨#[]⟩]), 2, 24) := by kernel_rfl
/-- The head of a row of bytes of one's own. -/
theorem own_head {w : World} {B : Nat} {a : Option Addr} {c : Nat} {s : ByteArray} (h : w.ownsRow B 5 1 (.slice a s.size c) s.size (Lib.strCells s)) (k : Nat) (hk : k ≤ s.size) :
    s.size ≤ c ∧ w.ownsRow B 5 1 (.slice a k c) (s.extract 0 k).size (Lib.strCells (s.extract 0 k)) := by
  have hz : (s.extract 0 k).size = k := by rw [ByteArray.size_extract]; omega
  rw [hz, ← strCells_take s k hk]
  rcases h.2 with ⟨e, h0⟩ | ⟨g, cap, cur, e, hg, hh, hn, hm, hcs, htk⟩
  · injection e with e1 e2 e3
    subst e1 e3
    have hk0 : k = 0 := by omega
    subst hk0
    exact ⟨by omega, World.ownsRow_nil _ _ _ _⟩
  · injection e with e1 e2 e3
    subst e1 e3
    refine ⟨hn, by rw [List.length_take, h.1]; omega, .inr ⟨g, c, cur, rfl, hg, hh, by omega, hm, hcs, ?_⟩⟩
    rw [← htk, List.take_take]
    congr 1
    omega
/-- A slice of a slice, by what it is known to be. -/
theorem wpList_slice_as {P : Program} {w : World} {ops : Array Oper} {rest : List Oper} {o : Oper} {a : Act} {Q : Exit → Act → World → Prop} (hgd : o.guard = none) (t : TypeId) (x l : Operand) (ho : o.op = .slice t x (some l) none none) (ht : P.underlying t = some (.slice (P.elem t))) (v lv u : Value) (hx : a.eval x = v) (hl : a.eval l = lv)
    (hr : (Instr.slice t v (some lv) none none).run P w = .ok u w) (h : wpList P ops Q rest (a.put o.dst u) w) : wpList P ops Q (o :: rest) a w := by
  refine wpList_plain hgd fun K hK => ?_
  unfold Oper.wp execOp
  simp only [ho, Option.map_some, Option.map_none, hx, hl, run_sliceAt_slice w t v _ _ _ ht, hr, Sem.run_bind, Sem.run_pure, Result.andThen_ok]
  exact hK _ _ h
/-- One of the log's numbers anew. -/
theorem Wm.field {w : World} {B : Nat} {I : Wd} {L : Lg} {S : Dsk} (h : Wm w B I L S) (i : Nat) (u : Value) (L' : Lg) (e : (I.box L).setIfInBounds i u = I.box L') (hd : L'.data = L.data) (hp : L'.places = L.places) : Wm (w.setCell ⟨I.g, i, none⟩ u) B I L' S :=
  ⟨by rw [← e]; exact h.box.set i u, h.bg, h.dsk.far (p := ⟨I.g, i, none⟩) h.box (by decide) (by decide) (by decide) _, by rw [hd]; exact own_far h.dat (p := ⟨I.g, i, none⟩) h.box (by decide) _, by rw [hp]; exact own_far h.plc (p := ⟨I.g, i, none⟩) h.box (by decide) _⟩
theorem total_le : ∀ (m : Nat) (st : Oct.Rs), total (recsFrom m st) ≤ (st.getD ⟨#[]⟩).size
  | 0, st => Nat.zero_le _
  | m + 1, st => by
    show total (if (Oct.rnum st 2).1 = 0 ∨ (Oct.rbytes (Oct.rnum st 2).2 (Oct.rnum st 2).1).2.isNone = true then [] else (Oct.rbytes (Oct.rnum st 2).2 (Oct.rnum st 2).1).1 :: recsFrom m (Oct.rbytes (Oct.rnum st 2).2 (Oct.rnum st 2).1).2) ≤ _
    by_cases h : (Oct.rnum st 2).1 = 0 ∨ (Oct.rbytes (Oct.rnum st 2).2 (Oct.rnum st 2).1).2.isNone = true
    · rw [if_pos h]; exact Nat.zero_le _
    · rw [if_neg h]
      have a := (rd_less st h).1
      have b := total_le m (Oct.rbytes (Oct.rnum st 2).2 (Oct.rnum st 2).1).2
      have c : ∀ (r : ByteArray) (l : List ByteArray), total (r :: l) = (2 + r.size) + total l := fun r l => by simp [total]
      rw [c]
      omega
/-- The stream's bytes, zeros laid behind up to so many. -/
def padTo (d : ByteArray) (a : Nat) : ByteArray := d ++ Fr.zs (a - d.size)
theorem zs_snoc (d : ByteArray) (t : Nat) : (d ++ Fr.zs t) ++ ⟨#[0]⟩ = d ++ Fr.zs (t + 1) := by
  rw [ByteArray.append_assoc]
  congr 1
  apply ByteArray.ext
  apply Array.toList_inj.1
  simp [Fr.zs, List.replicate_succ']
def opened (L : Lg) : Lg :=
  let D := padTo L.data (L.start % 54)
  let rs := recsFrom (D.size + 1) (some (D.extract (L.start % 54) D.size))
  { L with fin := L.start + total rs, firm := L.start + total rs, data := D.extract 0 (L.start + total rs - flr L.start), places := plcFrom L.start rs }
def openRecs (L : Lg) : List ByteArray :=
  let D := padTo L.data (L.start % 54)
  recsFrom (D.size + 1) (some (D.extract (L.start % 54) D.size))

set_option maxRecDepth 100000 in
set_option maxHeartbeats 4000000 in
theorem records_any {w : World} {B : Nat} {I : Wd} {L : Lg} {S : Dsk} (h : Wm w B I L S) (hp0 : L.places = []) (hds : L.data.size ≤ 300000) (hst : L.start ≤ 1152921504606) (hB : B ≤ w.heap.size) :
    Calls Tryz.prog 37 #[I.ptr] w fun e w' => ∃ ev dv pv, e = .returned ev ∧ w'.ownsRow B 61 2 ev (openRecs L).length (enL L.start (openRecs L)) ∧ Wm w' B ⟨I.g, I.d, dv, pv⟩ (opened L) S ∧ Below B w w' := by
  have H := Lib.hid h; have HB := Lib.hid hB; have P0 := Lib.hid hp0; have DS := Lib.hid hds
  have OR := Lib.hid (show openRecs L = recsFrom ((padTo L.data (L.start % 54)).size + 1) (some ((padTo L.data (L.start % 54)).extract (L.start % 54) (padTo L.data (L.start % 54)).size)) from rfl)
  have OL := Lib.hid (show opened L = { L with fin := L.start + total (openRecs L), firm := L.start + total (openRecs L), data := (padTo L.data (L.start % 54)).extract 0 (L.start + total (openRecs L) - flr L.start), places := plcFrom L.start (openRecs L) } from rfl)
  generalize openRecs L = rs at *
  generalize opened L = L' at *
  obtain ⟨c0, c1, c2, c3, c4, c5, c6, c7⟩ := h.cells
  have f4 := h.box.fz 4; have f5 := h.box.fz 5
  obtain ⟨g, d, dv, pv⟩ := I
  unfold Wd.ptr
  dsimp only at c0 c1 c2 c3 c4 c5 c6 c7 f4 f5 ⊢
  clear h hB hp0 hds c0 c1 c2 c6 c7
  have em : (L.start : Int).tmod 54 = ((L.start % 54 : Nat) : Int) := by rw [Int.tmod_eq_emod_of_nonneg (by omega)]; simp
  go_enter Tryz.func37, Tryz.ntmps37
  go_wp2_with fail
  go_region
  have W1 := Lib.hid (((H.out.field 4 (.int .i64 L.start) { L with fin := L.start } rfl rfl rfl).field 5 (.int .i64 L.start) { L with fin := L.start, firm := L.start } rfl rfl rfl).kept ((Below.refl _ _).drew))
  have B1 := Lib.hid ((((Below.refl B w).setCell (p := ⟨g, 4, none⟩) H.out.bg (.int .i64 L.start)).setCell (p := ⟨g, 5, none⟩) H.out.bg (.int .i64 L.start)).drew)
  dsimp only at W1
  clear c3 c4 c5 f4 f5 H
  generalize ((w.setCell ⟨g, 4, none⟩ (.int .i64 L.start)).setCell ⟨g, 5, none⟩ (.int .i64 L.start)).drew = w1 at *
  have c3 : w1.cell? ⟨g, 3, none⟩ = some (.int .i64 L.start) := W1.out.box.cell 3
  obtain ⟨ah, hah, hal⟩ : ∃ ah, ah = L.start % 54 ∧ ah < 54 := ⟨_, rfl, Nat.mod_lt _ (by omega)⟩
  have AH := Lib.hid hah
  rw [← hah] at em
  rw [← hah] at OR OL
  clear hah
  go_wp2_with fail
  clear c3
  obtain ⟨i2, hi2, hx0, hx1, hx2⟩ := info_parts Tryz.info5'
  obtain ⟨i1, hi1, hy0, hy1, hy2⟩ := info_parts Tryz.info3
  go_loopg [] (ah - L.data.size) (fun gk wr => ∃ (dv : Value) (t : Nat), t + gk = ah - L.data.size ∧ Wm wr B ⟨g, d, dv, pv⟩ { L with fin := L.start, firm := L.start, data := L.data ++ Fr.zs t } S ∧ Below B w wr)
  case atStart => exact ⟨dv, 0, by omega, by
    have e : L.data ++ Fr.zs 0 = L.data := Oct.app_nil L.data
    rw [e]; exact W1.out, B1.out⟩
  case round =>
    obtain ⟨dv, t, ht, hW, hb⟩ := hrel
    have W := Lib.hid hW; have BB := Lib.hid hb; have TG := Lib.hid ht
    clear hW hb ht W1 B1
    obtain ⟨da, dc, hde⟩ := tx_slice W.out.dat
    dsimp only at hde
    subst hde
    have sz : (L.data ++ Fr.zs t).size = L.data.size + t := by rw [ByteArray.size_append, Fr.zs_size]
    have c6 : wr.cell? ⟨g, 6, none⟩ = some (.slice da (L.data.size + t) dc) := by rw [← sz]; exact W.out.box.cell 6
    have HBr := Lib.hid (Nat.le_trans HB.out BB.out.size)
    have tg := TG.out
    by_cases hg : gk = 0
    · have hlt : ¬ ((L.data.size + t : Nat) : Int) < (ah : Int) := by omega
      have EP := Lib.hid (show padTo L.data ah = L.data ++ Fr.zs t from by unfold padTo; rw [show ah - L.data.size = t by omega])
      rw [EP.out] at OR OL
      have hDa : ah ≤ (L.data ++ Fr.zs t).size := by rw [sz]; omega
      have hD6 : (L.data ++ Fr.zs t).size ≤ 300100 := by rw [sz]; have := DS.out; omega
      obtain ⟨sa, sc, hsl, hcv⟩ := slice_low W.out.dat ah hDa
      dsimp only at hsl hcv
      rw [sz] at hsl
      have SZ := Lib.hid sz
      have cv0 : (convert 63 9 (.slice sa ((L.data ++ Fr.zs t).size - ah) sc)).run Tryz.prog wr = .ok (.string ((L.data ++ Fr.zs t).extract ah (L.data ++ Fr.zs t).size)) wr := hcv 0
      rw [sz] at cv0
      clear TG tg hg EP
      generalize hD : L.data ++ Fr.zs t = D at *
      have CO := Lib.hid (rd_read (D.extract ah (L.data.size + t)) wr)
      have HE := Lib.hid (show (D.extract ah D.size).size = D.size - ah from by rw [ByteArray.size_extract]; omega)
      have hlt2 : ¬ (L.data.size : Int) + (t : Int) < (ah : Int) := by omega
      clear hcv
      go_wp2_with (refine wpList_slice_as rfl 63 _ _ rfl sliceElem.1 (.slice da (L.data.size + t) dc) (.int .i64 ah) (.slice sa (D.size - ah) sc) rfl rfl (hsl _) ?_)
      refine CO.out.mono ?_
      rintro e w2 ⟨rfl, hr, hb, hlt3⟩
      rw [← SZ.out] at hr
      have W2 := Lib.hid (show Wm w2 B ⟨g, d, .slice da D.size dc, pv⟩ { L with fin := L.start + total [], firm := L.start, data := D, places := plcFrom L.start [] } S from by
        have := W.out.kept hb
        rw [P0.out] at this
        exact this)
      have B2 := Lib.hid (below_then BB.out hb HBr.out)
      have R2 := Lib.hid hr
      have GB := Lib.hid HBr.out
      have GL := Lib.hid hlt3
      generalize wr.heap.size = gr at *
      clear hr hb hlt3 CO W BB c6 hsl cv0 hlt hlt2 HBr
      generalize Value.slice da D.size dc = dv at *
      go_wp2_with fail
      go_loopg [4] (D.size + 1) (fun gk ev wx => ∃ (l : List ByteArray) (st : Oct.Rs) (pv : Value), rs = l ++ recsFrom gk st ∧ (st.getD ⟨#[]⟩).size < gk ∧ total l + (st.getD ⟨#[]⟩).size ≤ D.size - ah ∧ RdSt wx gr st ∧ wx.ownsRow B 61 2 ev l.length (enL L.start l) ∧ Wm wx B ⟨g, d, dv, pv⟩ { L with fin := L.start + total l, firm := L.start, data := D, places := plcFrom L.start l } S ∧ Below B w wx ∧ gr < wx.heap.size)
      case atStart => exact ⟨[], _, pv, OR.out, by show (D.extract ah D.size).size < _; rw [HE.out]; omega, by show 0 + (D.extract ah D.size).size ≤ _; rw [HE.out]; omega, R2.out, World.ownsRow_nil _ _ _ _, W2.out, B2.out, GL.out⟩
      case round =>
        clear W2 B2 R2 GL OR P0
        obtain ⟨l, st, pv, hrs, hst1, htot, hrd, hev, hW, hb, hgl⟩ := hrel
        have RS := Lib.hid hrs; have ST := Lib.hid hst1; have TO := Lib.hid htot; have R := Lib.hid hrd; have EV := Lib.hid hev; have W := Lib.hid hW; have BB := Lib.hid hb; have GL := Lib.hid hgl
        clear hrs hst1 htot hrd hev hW hb hgl
        have HBx := Lib.hid (Nat.le_trans HB.out BB.out.size)
        have RF := Lib.hid (show recsFrom gk st = if (Oct.rnum st 2).1 = 0 ∨ (Oct.rbytes (Oct.rnum st 2).2 (Oct.rnum st 2).1).2.isNone = true then [] else (Oct.rbytes (Oct.rnum st 2).2 (Oct.rnum st 2).1).1 :: recsFrom (gk - 1) (Oct.rbytes (Oct.rnum st 2).2 (Oct.rnum st 2).1).2 from by
          obtain ⟨m, hm⟩ : ∃ m, gk = m + 1 := ⟨gk - 1, by have := ST.out; omega⟩
          rw [hm]; rfl)
        have LESS := Lib.hid (rd_less st)
        have SM := Lib.hid (show (st.getD ⟨#[]⟩).size ≤ maxLen from by have := TO.out; unfold maxLen; omega)
        have CN := Lib.hid (rd_num gr 2 st wr R.out SM.out)
        have NL := Lib.hid (rnum2_lt st)
        have S1 := Lib.hid (Nat.le_trans (rnum_size st 2) SM.out)
        go_wp2_with fail
        refine CN.out.mono ?_
        rintro e w3 ⟨rfl, hr, hg⟩
        have W3 := Lib.hid (W.out.beside (show Bk wr gr 141 _ from R.out) hg)
        have EV3 := Lib.hid (own_grown EV.out hg (fun k hk => by obtain rfl : gr = k := Option.some.inj hk; exact ⟨_, (show Bk wr gr 141 _ from R.out)⟩) (by decide))
        have BB3 := Lib.hid (BB.out.grown hg HBx.out (fun k hk => by obtain rfl : gr = k := Option.some.inj hk; exact GB.out))
        have GL3 := Lib.hid (Nat.lt_of_lt_of_le GL.out hg.size)
        have CB := Lib.hid (rd_bytes gr ((Oct.rnum st 2).1 : Int) (Oct.rnum st 2).2 w3 hr S1.out)
        have S2 := Lib.hid (Nat.le_trans (rbytes_size (Oct.rnum st 2).2 ((Oct.rnum st 2).1 : Int)) S1.out)
        have R3 := Lib.hid hr
        have nl := NL.out
        clear hr hg CN R W EV BB HBx GL NL S1
        generalize Oct.rnum st 2 = rn at *
        obtain ⟨n, st1⟩ := rn
        dsimp only at RF LESS CB S2 R3 nl
        have wc1 : IntKind.i64.wrap ((n : Nat) : Int) = (n : Int) := by rw [IntKind.wrap_i64]; omega
        go_wp2_with fail
        refine CB.out.mono ?_
        rintro e w4 ⟨rfl, hr, hg⟩
        have HB3 := Lib.hid (Nat.le_trans HB.out BB3.out.size)
        have W4 := Lib.hid (W3.out.beside (show Bk w3 gr 141 _ from R3.out) hg)
        have EV4 := Lib.hid (own_grown EV3.out hg (fun k hk => by obtain rfl : gr = k := Option.some.inj hk; exact ⟨_, (show Bk w3 gr 141 _ from R3.out)⟩) (by decide))
        have BB4 := Lib.hid (BB3.out.grown hg HB3.out (fun k hk => by obtain rfl : gr = k := Option.some.inj hk; exact GB.out))
        have GL4 := Lib.hid (Nat.lt_of_lt_of_le GL3.out hg.size)
        have R4 := Lib.hid hr
        clear hr hg CB W3 EV3 BB3 HB3 GL3 R3
        generalize Oct.rbytes st1 (n : Int) = rb at *
        obtain ⟨rec, st2⟩ := rb
        dsimp only at RF LESS S2 R4
        have CBad := Lib.hid (rd_isbad gr st2 w4 R4.out)
        go_upto_region 9 with fail
        go_cut [62] (fun s62 wx => s62 = .bool (decide (n = 0 ∨ st2.isNone = true)) ∧ wx = w4)
        case first =>
          by_cases hn0 : n = 0
          · have hb0 : ((n : Int) == 0) = true := by simp; omega
            have hd : decide (n = 0 ∨ st2.isNone = true) = true := decide_eq_true (.inl hn0)
            clear hn0
            go_wp2_with fail
            go_meet
            exact ⟨by rw [hd], rfl⟩
          · have hb0 : ((n : Int) == 0) = false := by simp; omega
            have hd : decide (n = 0 ∨ st2.isNone = true) = st2.isNone := by cases st2 <;> simp [hn0]
            clear hn0
            go_wp2_with fail
            refine CBad.out.mono ?_
            rintro e w5 ⟨rfl, hw⟩
            subst w5
            go_wp2_with fail
            go_meet
            exact ⟨by rw [hd], rfl⟩
        case rest =>
        obtain ⟨rfl, rfl⟩ := hcut
        clear CBad
        by_cases hc : n = 0 ∨ st2.isNone = true
        · have hd : decide (n = 0 ∨ st2.isNone = true) = true := decide_eq_true hc
          rw [hd]
          have RL := Lib.hid (show rs = l from by rw [RS.out, RF.out, if_pos hc, List.append_nil])
          clear hd hc RF LESS RS
          have ol := OL.out
          rw [RL.out] at ol
          have OL2 := Lib.hid ol
          clear OL R4 GL4 S2 ol
          have KK := Lib.hid (show L.start + total l - flr L.start ≤ D.size ∧ flr L.start ≤ L.start + total l from by have := TO.out; have := AH.out; unfold flr; omega)
          generalize L.start + total l = fe at *
          have c4 : wc.cell? ⟨g, 4, none⟩ = some (.int .i64 fe) := W4.out.box.cell 4
          have c5 : wc.cell? ⟨g, 5, none⟩ = some (.int .i64 L.start) := W4.out.box.cell 5
          have f5 := W4.out.box.fz 5
          dsimp only at f5
          have W5 := Lib.hid (W4.out.field 5 (.int .i64 fe) { L with fin := fe, firm := fe, data := D, places := plcFrom L.start l } rfl rfl rfl)
          have BB5 := Lib.hid (BB4.out.setCell (p := ⟨g, 5, none⟩) W4.out.bg (.int .i64 fe))
          have EV5 := Lib.hid (own_far EV4.out (p := ⟨g, 5, none⟩) W4.out.box (by decide) (.int .i64 fe))
          dsimp only at W5
          clear W4 BB4 EV4
          go_upto_region 14 with fail
          clear c4 c5 f5
          generalize (wc.setCell ⟨g, 5, none⟩ (.int .i64 fe)) = w5 at *
          obtain ⟨da2, dc2, hde2⟩ := tx_slice W5.out.dat
          dsimp only at hde2
          subst hde2
          obtain ⟨hdc, hown⟩ := own_head W5.out.dat (fe - flr L.start) KK.out.1
          have c3 : w5.cell? ⟨g, 3, none⟩ = some (.int .i64 L.start) := W5.out.box.cell 3
          have c4 : w5.cell? ⟨g, 4, none⟩ = some (.int .i64 fe) := W5.out.box.cell 4
          have c6 : w5.cell? ⟨g, 6, none⟩ = some (.slice da2 D.size dc2) := W5.out.box.cell 6
          have f6 := W5.out.box.fz 6
          dsimp only at f6
          have CF := Lib.hid (fun w => floor_any L.start w (by omega))
          have hfs : flr L.start ≤ L.start := flr_le _
          have HO := Lib.hid hown
          clear hown
          have hs1 : flr L.start ≤ fe := KK.out.2
          have hs2 : (fe : Int) - ((flr L.start : Nat) : Int) ≤ (dc2 : Int) := by have := KK.out.1; omega
          generalize flr L.start = fs at *
          have hw : IntKind.i64.wrap ((fe : Int) - (fs : Int)) = (fe : Int) - (fs : Int) := by have := KK.out; rw [IntKind.wrap_i64]; omega
          go_region_law? (first
            | (go_simp; go_at_call 52; refine (CF.out _).mono ?_; rintro e wz ⟨rfl, rfl⟩))
          all_goals
            have W6 := Lib.hid (show Wm (w5.setCell ⟨g, 6, none⟩ (.slice da2 (fe - fs) dc2)).drew B ⟨g, d, .slice da2 (fe - fs) dc2, pv⟩ { L with fin := fe, firm := fe, data := D.extract 0 (fe - fs), places := plcFrom L.start l } S from
              ((⟨W5.out.box.set 6 _, W5.out.bg, W5.out.dsk.far (p := ⟨g, 6, none⟩) W5.out.box (by decide) (by decide) (by decide) _, own_far HO.out (p := ⟨g, 6, none⟩) W5.out.box (by decide) _, own_far W5.out.plc (p := ⟨g, 6, none⟩) W5.out.box (by decide) _⟩ : Wm (w5.setCell ⟨g, 6, none⟩ (.slice da2 (fe - fs) dc2)) B ⟨g, d, .slice da2 (fe - fs) dc2, pv⟩ { L with fin := fe, firm := fe, data := D.extract 0 (fe - fs), places := plcFrom L.start l } S)).kept ((Below.refl _ _).drew))
            have BB6 := Lib.hid ((BB5.out.setCell (p := ⟨g, 6, none⟩) W5.out.bg (.slice da2 (fe - fs) dc2)).drew)
            have EV6 := Lib.hid (own_kept (own_far EV5.out (p := ⟨g, 6, none⟩) W5.out.box (by decide) (.slice da2 (fe - fs) dc2)) ((Below.refl _ _).drew))
            generalize (w5.setCell ⟨g, 6, none⟩ (.slice da2 (fe - fs) dc2)).drew = w6 at *
            go_wp2_with fail
            go_ret
            refine ⟨_, .slice da2 (fe - fs) dc2, pv, rfl, ?_, ?_, BB6.out⟩
            · rw [RL.out]; exact EV6.out
            · rw [OL2.out]; exact W6.out
        · have hd : decide (n = 0 ∨ st2.isNone = true) = false := decide_eq_false hc
          rw [hd]
          have RS2 := Lib.hid (show rs = (l ++ [rec]) ++ recsFrom (gk - 1) st2 from by rw [RS.out, RF.out, if_neg hc, List.append_assoc]; rfl)
          obtain ⟨hl1, hl2⟩ := LESS.out hc
          have L1 := Lib.hid hl1; have L2 := Lib.hid hl2
          clear hd hc RF LESS RS hl1 hl2
          have NZ := Lib.hid (plc_snoc l L.start rec); have NE := Lib.hid (enL_snoc l L.start rec); have NT := Lib.hid (total_snoc l rec)
          have LL := Lib.hid (show l.length ≤ 300100 from by
            have a : ∀ l : List ByteArray, l.length ≤ total l := fun l => by
              induction l with
              | nil => exact Nat.zero_le _
              | cons x l ih => have : total (x :: l) = (2 + x.size) + total l := by simp [total]
                               rw [this, List.length_cons]; omega
            have := a l; have := TO.out; omega)
          have FB := Lib.hid (show L.start + total l ≤ 1152921504606846976 from by have := TO.out; omega)
          rw [← Nat.add_assoc] at NT
          generalize hfe : L.start + total l = fe at *
          have HFE := Lib.hid hfe
          clear hfe
          obtain ⟨i3, hi3, hz0, hz1, hz2⟩ := info_parts Tryz.info61
          have c4 : wc.cell? ⟨g, 4, none⟩ = some (.int .i64 fe) := W4.out.box.cell 4
          have HB4 := Lib.hid (Nat.le_trans HB.out BB4.out.size)
          have T0 := Lib.hid (Bk.new wc 61 #[.int .i64 fe, .string rec])
          have WA := Lib.hid (W4.out.kept ((Below.refl _ _).alloc (Nat.le_refl _) (.cells #[.int .i64 fe, .string rec] 61)))
          have EVA := Lib.hid (World.ownsRow.alloc EV4.out (.cells #[.int .i64 fe, .string rec] 61))
          have RA := Lib.hid (show RdSt (wc.alloc (.cells #[.int .i64 fe, .string rec] 61)) gr st2 from RdAt.below R4.out ((Below.refl _ _).alloc (Nat.le_refl _) _) GL4.out)
          have HBA := Lib.hid (show B ≤ (wc.alloc (.cells #[.int .i64 fe, .string rec] 61)).heap.size from by have := HB4.out; simp; omega)
          have ll := LL.out
          go_wp2_with (at_builtin; refine wpList_append_own_at _ rfl _ _ 52 rfl B 61 i3 (.agg #[.int .i64 0, .string ⟨#[]⟩]) 2 24 Tryz.underlying52 hi3 hz0 hz1 hz2 rfl (by decide) u4 l.length (enL L.start l) rfl EVA.out ⟨wc.heap.size, 0, none⟩ 1 1 [.int .i64 fe, .string rec] rfl rfl ?rc2 ?rc3 ?rc4 ?rc5 ?rc6 ?_)
          case rc2 =>
            intro j u hj
            rw [Addr.add_lit, Nat.zero_add]
            refine Eq.trans (T0.out.cell j) ?_
            simpa using hj
          case rc3 => simp [Value.oneCell']
          case rc4 => unfold maxLen; omega
          case rc5 => omega
          case rc6 => exact HBA.out
          intro ev2 w5 hown hgrow _ _
          have hre : ∀ k, u4.ownBlock = some k → ∃ cur, Bk (wc.alloc (.cells #[.int .i64 fe, .string rec] 61)) k 61 cur := fun k hk => (owns_block EVA.out hk).2.2
          have W5 := Lib.hid (WA.out.grown hgrow hre)
          have EV5 := Lib.hid (show w5.ownsRow B 61 2 ev2 (l ++ [rec]).length (enL L.start (l ++ [rec])) from by rw [NE.out, List.length_append]; exact hown)
          have R5 := Lib.hid (show RdSt w5 gr st2 from RdAt.grown RA.out hgrow (fun e => by obtain ⟨cur, hc⟩ := hre _ e.symm; exact Bk.ne_ (show Bk _ gr 141 _ from RA.out) hc (by decide) rfl))
          have BB5 := Lib.hid ((BB4.out.alloc HB4.out (.cells #[.int .i64 fe, .string rec] 61)).grown hgrow HBA.out (fun k hk => (owns_block EVA.out hk).1))
          have GL5 := Lib.hid (show gr < w5.heap.size from RdAt.lt R5.out)
          obtain ⟨ea, ec, hee⟩ := tx_slice EV5.out
          subst hee
          clear hown hgrow hre T0 WA EVA RA HBA W4 EV4 R4 BB4 GL4 HB4 c4
          go_upto_region 11 with fail
          have c4 : w5.cell? ⟨g, 4, none⟩ = some (.int .i64 fe) := W5.out.box.cell 4
          have c7 : w5.cell? ⟨g, 7, none⟩ = some pv := W5.out.box.cell 7
          have glt : g < w5.heap.size := W5.out.box.lt
          have HB5 := Lib.hid (Nat.le_trans HB.out BB5.out.size)
          have PL := Lib.hid (show w5.ownsRow B 3 1 pv l.length (ints (plcFrom L.start l)) from by have := W5.out.plc; dsimp only at this; rw [plc_length] at this; exact this)
          go_region_law? (first
            | (refine step_append_lies _ rfl _ _ 36 rfl B 3 i1 (.int .i64 0) 1 8 Tryz.underlying36 hi1 hy0 hy1 hy2 rfl (by decide) pv l.length (ints (plcFrom L.start l)) rfl (own_kept PL.out ((Below.refl w5.heap.size w5).drew.alloc (by simp) _)) ⟨w5.heap.size, 0, none⟩ 1 1 [.int .i64 fe] rfl rfl (by intro j u hj; rw [Addr.add_lit, Nat.zero_add]; refine Eq.trans ((Bk.new w5.drew 3 #[.int .i64 fe]).cell j) ?_; simpa using hj) (by simp [Value.oneCell']) (by omega) (by unfold maxLen; omega) (by omega) (by have := HB5.out; simp; omega) _ rfl ?_; intro gp cap w6 hown hgrow hat hlt6; have k7 : w6.cell? ⟨g, 7, none⟩ = some pv := (bk_grown (W5.out.box.drew.alloc _) (own_kept PL.out ((Below.refl w5.heap.size w5).drew.alloc (by simp) _)) hgrow (by decide)).cell 7; have f7 := (bk_grown (W5.out.box.drew.alloc _) (own_kept PL.out ((Below.refl w5.heap.size w5).drew.alloc (by simp) _)) hgrow (by decide)).fz 7))
          all_goals
            have BA := Lib.hid (show Below w5.heap.size w5 (w5.alloc (.cells #[.int .i64 fe] 3)).drew from ((Below.refl _ _).alloc (Nat.le_refl _) _).drew)
            have WA := Lib.hid (W5.out.kept BA.out)
            have HBA := Lib.hid (show B ≤ (w5.alloc (.cells #[.int .i64 fe] 3)).drew.heap.size from Nat.le_trans HB5.out BA.out.size)
            have hpl := WA.out.placed (k := fe) (a := .slice (some ⟨gp, 0, none⟩) (l.length + 1) cap) HBA.out (by dsimp only; rw [plc_length]; exact hown) hgrow
            have W7 := Lib.hid hpl.1
            have BB7 := Lib.hid ((below_then BB5.out BA.out HB5.out).trans hpl.2)
            have EV7 := Lib.hid (own_far (own_grown' (own_kept EV5.out BA.out) WA.out.plc hgrow (by decide)) (p := ⟨g, 7, none⟩) (bk_grown WA.out.box WA.out.plc hgrow (by decide)) (by decide) (.slice (some ⟨gp, 0, none⟩) (l.length + 1) cap))
            have R7 := Lib.hid (show RdSt (w6.setCell ⟨g, 7, none⟩ (.slice (some ⟨gp, 0, none⟩) (l.length + 1) cap)) gr st2 from Bk.far (Bk.grown (Bk.kept (show Bk w5 gr 141 _ from R5.out) BA.out) hgrow (fun e => by obtain ⟨_, _, cur, hc⟩ := owns_block WA.out.plc e.symm; exact Bk.ne_ (Bk.kept (show Bk w5 gr 141 _ from R5.out) BA.out) hc (by decide) rfl)) (p := ⟨g, 7, none⟩) (Bk.ne_ (show Bk w5 gr 141 _ from R5.out) W5.out.box (by decide)) _)
            clear hown hgrow hat hlt6 k7 f7 hpl WA HBA BA W5 EV5 R5 BB5 GL5 PL c4 c7 glt
            dsimp only at W7
            generalize (w6.setCell ⟨g, 7, none⟩ (.slice (some ⟨gp, 0, none⟩) (l.length + 1) cap)) = w7 at *
            have z4 : w7.cell? ⟨g, 4, none⟩ = some (.int .i64 fe) := W7.out.box.cell 4
            have f4 := W7.out.box.fz 4
            dsimp only at f4
            have fb := FB.out
            have EQ := Lib.hid (show (fe : Int) + (2 + (n : Int)) = ((fe + (2 + rec.size) : Nat) : Int) from by have := L2.out; omega)
            have W8 := Lib.hid (W7.out.field 4 (.int .i64 ((fe + (2 + rec.size) : Nat) : Int)) { L with fin := fe + (2 + rec.size), firm := L.start, data := D, places := plcFrom L.start l ++ [fe] } rfl rfl rfl)
            have BB8 := Lib.hid (BB7.out.setCell (p := ⟨g, 4, none⟩) W7.out.bg (.int .i64 ((fe + (2 + rec.size) : Nat) : Int)))
            have EV8 := Lib.hid (own_far EV7.out (p := ⟨g, 4, none⟩) W7.out.box (by decide) (.int .i64 ((fe + (2 + rec.size) : Nat) : Int)))
            have R8 := Lib.hid (show RdSt (w7.setCell ⟨g, 4, none⟩ (.int .i64 ((fe + (2 + rec.size) : Nat) : Int))) gr st2 from Bk.far (show Bk w7 gr 141 _ from R7.out) (p := ⟨g, 4, none⟩) (Bk.ne_ (show Bk w7 gr 141 _ from R7.out) W7.out.box (by decide)) _)
            dsimp only at W8
            clear W7 BB7 EV7 R7
            rw [← EQ.out] at W8 BB8 EV8 R8
            go_wp2_with fail
            generalize (w7.setCell ⟨g, 4, none⟩ (.int .i64 ((fe : Int) + (2 + (n : Int))))) = w8 at *
            go_roundg (gk - 1)
            case measure => have := ST.out; omega
            case rel => exact ⟨l ++ [rec], st2, _, RS2.out, by have := ST.out; have := L1.out; omega, by have a := NT.out; have b := L1.out; have c := TO.out; omega, R8.out, by have ev := EV8.out; rw [show (l ++ [rec]).length = l.length + 1 by simp] at ev ⊢; exact ev, by
              have w := W8.out
              have e1 : fe + (2 + rec.size) = L.start + total (l ++ [rec]) := by have a := NT.out; have b := HFE.out; omega
              rw [NZ.out, ← e1]
              exact w, BB8.out, RdAt.lt R8.out⟩
    · have hlt : ((L.data.size + t : Nat) : Int) < (ah : Int) := by omega
      have T0 := Lib.hid (Bk.new wr 5 #[.int .u8 0])
      have WA := Lib.hid (W.out.kept ((Below.refl _ _).alloc (Nat.le_refl _) (.cells #[.int .u8 0] 5)))
      have HBa := Lib.hid (show B ≤ (wr.alloc (.cells #[.int .u8 0] 5)).heap.size from by have := HBr.out; simp; omega)
      have tb : L.data.size + t ≤ 300100 := by have := DS.out; have := TG.out; omega
      have SZ := Lib.hid sz
      have DO := Lib.hid (show (wr.alloc (.cells #[.int .u8 0] 5)).ownsRow B 5 1 (.slice da (L.data.size + t) dc) (L.data.size + t) (Lib.strCells (L.data ++ Fr.zs t)) from by have := WA.out.dat; dsimp only at this; rw [sz] at this; exact this)
      clear sz
      go_wp2_with (at_builtin; refine wpList_append_own_at _ rfl _ _ 63 rfl B 5 i2 (.int .u8 0) 1 1 Tryz.underlying63 hi2 hx0 hx1 hx2 rfl (by decide) (.slice da (L.data.size + t) dc) (L.data.size + t) (Lib.strCells (L.data ++ Fr.zs t)) rfl DO.out ⟨wr.heap.size, 0, none⟩ 1 1 [.int .u8 0] rfl rfl ?qc2 ?qc3 ?qc4 ?qc5 ?qc6 ?_)
      case qc2 =>
        intro j u hj
        rw [Addr.add_lit, Nat.zero_add]
        refine Eq.trans (T0.out.cell j) ?_
        simpa using hj
      case qc3 => simp [Value.oneCell']
      case qc4 => unfold maxLen; omega
      case qc5 => omega
      case qc6 => exact HBa.out
      intro v2 w2 hown hgrow _ _
      obtain ⟨ya, yc, hye⟩ := tx_slice hown
      subst hye
      have hdat := WA.out.data (s := ⟨#[0]⟩) (a := .slice ya (L.data.size + t + 1) yc) HBa.out (by show w2.ownsRow B 5 1 _ ((L.data ++ Fr.zs t).size + 1) (Lib.strCells (L.data ++ Fr.zs t) ++ [.int .u8 0]); rw [SZ.out]; exact hown) (show (wr.alloc (.cells #[.int .u8 0] 5)).grownBy w2 (Value.slice da (L.data ++ Fr.zs t).size dc).ownBlock from by rw [SZ.out]; exact hgrow)
      have z6 : w2.cell? ⟨g, 6, none⟩ = some (.slice da (L.data ++ Fr.zs t).size dc) := hdat.1.cell 6
      have f6 := hdat.1.fz 6
      have W2 := Lib.hid hdat.2.1
      have B2 := Lib.hid ((BB.out.alloc HBr.out (.cells #[.int .u8 0] 5)).trans hdat.2.2)
      have c6' := c6
      clear hdat hown hgrow T0 WA DO W BB c6 c6' tg
      dsimp only at W2
      go_wp2_with fail
      generalize (w2.setCell ⟨g, 6, none⟩ (.slice ya (L.data.size + t + 1) yc)) = w3 at *
      have hgk : gk - 1 < gk := by omega
      go_roundg (gk - 1)
      case measure => exact hgk
      case rel => exact ⟨_, t + 1, by have := TG.out; omega, by rw [← zs_snoc]; exact W2.out, B2.out⟩
end Go.Proofs.YtgafajbdmegfgaaGreat
