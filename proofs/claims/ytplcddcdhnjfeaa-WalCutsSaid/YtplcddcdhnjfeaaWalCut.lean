/- The walk of Cut. -/
import Derived.Test.YtplcddcdhnjfeaaWalThyA
import Derived.Test.YtplcddcdhnjfeaaWalTail
import Derived.Test.YtplcddcdhnjfeaaWalFlush
import Derived.Lib.SmallJoins
import Derived.StillTailTactics
import Derived.Deep.RegionHeldLaw
set_option linter.unusedVariables false
set_option linter.unusedSimpArgs false
namespace Go.Proofs.Ytplcddcdhnjfeaa
open Go.RowKit

/-- A slice of a slice, by what it is known to be, at a step of a region that draws its order. -/
theorem step_slice_as {P : Program} {w : World} {ops : Array Oper} {o : Oper} {a : Act} {K : Act → World → Prop} {Q : Exit → Act → World → Prop} {E : Prop} (hgd : o.guard = none) (t : TypeId) (x l : Operand) (ho : o.op = .slice t x (some l) none none) (ht : P.underlying t = some (.slice (P.elem t))) (v lv u : Value) (hx : a.eval x = v) (hl : a.eval l = lv)
    (hr : (Instr.slice t v (some lv) none none).run P w = .ok u w) (h : K (a.put o.dst u) w) : if Region.wanted o (yielded ops a.tmps) = true then Oper.wp P o a w K Q else E := by
  have hw : Region.wanted o (yielded ops a.tmps) = true := by simp [Region.wanted, hgd]
  rw [if_pos hw]
  unfold Oper.wp execOp
  simp only [ho, Option.map_some, Option.map_none, hx, hl, run_sliceAt_slice w t v _ _ _ ht, hr, Sem.run_bind, Sem.run_pure, Result.andThen_ok]
  exact h
set_option maxRecDepth 100000 in
set_option maxHeartbeats 4000000 in
theorem cut_good {w : World} {B : Nat} {I : Wd} {L : Lg} {S : Dsk} (h : Wl w B I L S) (at_ : Nat) (h1 : L.start ≤ at_) (h2 : at_ ≤ L.firm) (h3 : at_ ∈ L.places ∨ at_ = L.fin) (hB : B ≤ w.heap.size) :
    Calls Try.prog 20 #[I.ptr, .int .i64 at_] w fun e w' => e = .returned (.int .i64 0) ∧ ∃ dv pv, Wl w' B ⟨I.g, I.d, dv, pv⟩ (L.cut at_) S ∧ Out w w' (fun k => k = I.g) := by
  have H := Lib.hid h; have HB := Lib.hid hB
  have OK := Lib.hid (Lg.cut_ok h.ok at_ h1 h2)
  have ok := h.ok
  have big : L.fin ≤ 1152921504606846976 := ok.big
  have few := ok.few; have sz := ok.sz; have rm := ok.rm; have n2 := ok.n2; have fe := ok.fe
  have LN := Lib.hid (show L.places.length ≤ 300000 from by omega)
  have DN := Lib.hid (show L.data.size ≤ 300000 from by omega)
  obtain ⟨c0, c1, c2, c3, c4, c5, c6, c7⟩ := h.cells
  have SR := Lib.hid (search_any h.plc at_ (by omega) ok.asc)
  have CI := Lib.hid (show L.places.countP (· < at_) ≤ L.places.length from List.countP_le_length)
  have CT := Lib.hid (show Lg.cut L at_ = { L with places := L.places.drop (L.places.countP (· < at_)), data := L.data.extract (flr at_ - flr L.start) L.data.size, start := at_ } from rfl)
  generalize L.places.countP (· < at_) = i at *
  have hcon : L.places.contains at_ = true ∨ (L.places.contains at_ = false ∧ at_ = L.fin) := by
    by_cases hm : at_ ∈ L.places
    · exact .inl (by simpa using hm)
    · rcases h3 with h3 | h3
      · exact absurd h3 hm
      · exact .inr ⟨by simpa using hm, h3⟩
  generalize L.places.contains at_ = cb at *
  have f1 := flr_mono h1
  have FM := Lib.hid f1
  have FA := Lib.hid (show flr at_ - flr L.start ≤ L.data.size from by have := flr_le at_; omega)
  have CF1 := Lib.hid (fun w => floor_any at_ w (by omega))
  have CF2 := Lib.hid (fun w => floor_any L.start w (by omega))
  have hle : ¬ ((at_ : Nat) : Int) > ((L.firm : Nat) : Int) := by omega
  have hle2 : ¬ ((L.firm : Nat) : Int) < ((at_ : Nat) : Int) := by omega
  have hd1 : decide (((L.firm : Nat) : Int) < ((at_ : Nat) : Int)) = false := decide_eq_false hle2
  have AB := Lib.hid (show at_ ≤ 1152921504606846976 from by omega)
  have HL := Lib.hid (show ¬ L.firm < at_ from by omega)
  generalize L.cut at_ = L' at *
  obtain ⟨g, d, dv, pv⟩ := I
  unfold Wd.ptr
  dsimp only at c0 c1 c2 c3 c4 c5 c6 c7 SR ⊢
  clear h ok h1 h2 h3 hB f1 few sz rm n2 fe
  go_enter Try.func20, Try.ntmps20
  go_wp2_with fail
  refine SR.out.mono ?_
  rintro e w1 ⟨rfl, hb⟩
  have W1 := Lib.hid (H.out.kept hb)
  have O1 := Lib.hid (Out.of_below hb (fun k => k = g))
  have HB1 := Lib.hid (Nat.le_trans HB.out hb.size)
  clear SR H hb c0 c1 c2 c3 c4 c5 c6 c7
  have c4 : w1.cell? ⟨g, 4, none⟩ = some (.int .i64 L.fin) := W1.out.box.cell 4
  have c5 : w1.cell? ⟨g, 5, none⟩ = some (.int .i64 L.firm) := W1.out.box.cell 5
  have c7 : w1.cell? ⟨g, 7, none⟩ = some pv := W1.out.box.cell 7
  go_upto_region 4 with fail
  go_cut [35] (fun s35 wx => s35 = .bool false ∧ Below w1.heap.size w1 wx)
  case first =>
    rcases hcon with rfl | ⟨rfl, he⟩
    · go_wp2_with fail
      go_meet
      exact ⟨congrArg Value.bool (decide_eq_false (by have := HL.out; omega)), Below.refl _ _⟩
    · have hne : (((at_ : Nat) : Int) != ((L.fin : Nat) : Int)) = false := by rw [he]; simp
      go_wp2_with fail
      go_meet
      exact ⟨congrArg Value.bool (decide_eq_false (by have := HL.out; omega)), Below.refl _ _⟩
  case rest =>
  obtain ⟨rfl, hb⟩ := hcut
  have W2 := Lib.hid (W1.out.kept hb)
  have O2 := Lib.hid (O1.out.then_ (Out.of_below hb (fun _ => False)) (fun i _ hi => hi.elim))
  have HB2 := Lib.hid (Nat.le_trans HB1.out hb.size)
  clear hb W1 O1 HB1 c4 c5 c7 hcon hle hle2 hd1
  have c7 : wc.cell? ⟨g, 7, none⟩ = some pv := W2.out.box.cell 7
  obtain ⟨ta, tc, hsl, htl, hlt⟩ := tail_row intsElem szInt W2.out.plc i CI.out
  have CL := Lib.hid (cloneI_any ta (L.places.length - i) tc L.places i wc htl (by rw [List.length_drop]) (by have := LN.out; omega))
  have W2b := W2
  obtain ⟨pa, pc, hpe⟩ := tx_slice W2.out.plc
  dsimp only at hpe hsl
  subst hpe
  clear htl hlt
  go_wp2_with (refine wpList_slice_as rfl 23 _ _ rfl intsElem.1 (.slice pa L.places.length pc) (.int .i64 i) (.slice ta (L.places.length - i) tc) rfl rfl (hsl _) ?_)
  refine CL.out.mono ?_
  rintro e w3 ⟨pv3, rfl, hown, hb⟩
  have W3 := Lib.hid (W2.out.kept hb)
  have P3 := Lib.hid (Go.Joins.ownsRow_le hown HB2.out)
  have O3 := Lib.hid (O2.out.then_ (Out.of_below hb (fun _ => False)) (fun i _ hi => hi.elim))
  have HB3 := Lib.hid (Nat.le_trans HB2.out hb.size)
  clear hown hb CL W2 W2b O2 HB2 hsl c7
  obtain ⟨pa3, pc3, hpe⟩ := tx_slice P3.out
  subst hpe
  have f7 : w3.frozen? ⟨g, 7, none⟩ = false := W3.out.box.fz 7
  have z7 : w3.cell? ⟨g, 7, none⟩ = some (.slice pa L.places.length pc) := W3.out.box.cell 7
  go_upto_region 7 with fail
  clear f7 z7
  have K4 := Lib.hid (show Bk (w3.setCell ⟨g, 7, none⟩ (.slice pa3 (L.places.length - i) pc3)) g 67 #[d.ptr, .int .i64 L.first, .int .i64 L.n, .int .i64 L.start, .int .i64 L.fin, .int .i64 L.firm, dv, .slice pa3 (L.places.length - i) pc3] from W3.out.box.set 7 _)
  have D4 := Lib.hid (own_far W3.out.dat (p := ⟨g, 7, none⟩) W3.out.box (by decide) (.slice pa3 (L.places.length - i) pc3)); have P4 := Lib.hid (own_far P3.out (p := ⟨g, 7, none⟩) W3.out.box (by decide) (.slice pa3 (L.places.length - i) pc3)); have S4 := Lib.hid (W3.out.dsk.far (p := ⟨g, 7, none⟩) W3.out.box (by decide) (by decide) (by decide) (.slice pa3 (L.places.length - i) pc3))
  have O4 := Lib.hid (O3.out.set (q := ⟨g, 7, none⟩) (fun _ => rfl) (.slice pa3 (L.places.length - i) pc3))
  have BG := Lib.hid W3.out.bg
  have HB4 := Lib.hid (show B ≤ (w3.setCell ⟨g, 7, none⟩ (.slice pa3 (L.places.length - i) pc3)).heap.size from by simpa [World.setCell] using HB3.out)
  clear W3 P3 O3 HB3
  generalize (w3.setCell ⟨g, 7, none⟩ (.slice pa3 (L.places.length - i) pc3)) = w4 at *
  generalize Value.slice pa3 (L.places.length - i) pc3 = pv4 at *
  go_cut [] (fun wx => ∃ dv5, Bk wx g 67 #[d.ptr, .int .i64 L.first, .int .i64 L.n, .int .i64 L.start, .int .i64 L.fin, .int .i64 L.firm, dv5, pv4] ∧ wx.ownsRow B 5 1 dv5 (L.data.extract (flr at_ - flr L.start) L.data.size).size (Lib.strCells (L.data.extract (flr at_ - flr L.start) L.data.size)) ∧ Dk wx B d S ∧ wx.ownsRow B 3 1 pv4 (L.places.length - i) (ints (List.drop i L.places)) ∧ Out w wx (fun k => k = g))
  case first =>
    obtain ⟨da, dc, hde⟩ := tx_slice D4.out
    subst hde
    have k6 : w4.cell? ⟨g, 6, none⟩ = some (.slice da L.data.size dc) := K4.out.cell 6
    have k3 : w4.cell? ⟨g, 3, none⟩ = some (.int .i64 L.start) := K4.out.cell 3
    have f6 := K4.out.fz 6
    obtain ⟨ta2, tc2, hsl, htl, hlt⟩ := tail_row sliceElem sz1 D4.out (flr at_ - flr L.start) FA.out
    have CL := Lib.hid (fun w' (hb : Below w4.heap.size w4 w') => cloneB_any ta2 (L.data.size - (flr at_ - flr L.start)) tc2 (Lib.strCells L.data) (flr at_ - flr L.start) w' (htl.kept hb hlt) (by rw [List.length_drop]; simp [Lib.strCells]) (by have := DN.out; omega) (fun u hu => by obtain ⟨x, _, rfl⟩ := List.mem_map.1 hu; rfl))
    rw [strCells_drop] at CL
    dsimp only at hsl
    have hle : flr L.start ≤ flr at_ := FM.out
    have hle6 : flr at_ ≤ 1152921504606846976 := Nat.le_trans (flr_le _) AB.out
    have hci : ((flr at_ - flr L.start : Nat) : Int) = ((flr at_ : Nat) : Int) - ((flr L.start : Nat) : Int) := by omega
    rw [hci] at hsl
    have hw : IntKind.i64.wrap (((flr at_ : Nat) : Int) - ((flr L.start : Nat) : Int)) = ((flr at_ : Nat) : Int) - ((flr L.start : Nat) : Int) := by rw [IntKind.wrap_i64]; omega
    have NB := Lib.hid (show (L.data.extract (flr at_ - flr L.start) L.data.size).size = L.data.size - (flr at_ - flr L.start) from by rw [ByteArray.size_extract]; omega)
    clear htl hlt hci
    generalize L.data.extract (flr at_ - flr L.start) L.data.size = nd at *
    generalize L.data.size - (flr at_ - flr L.start) = nl at *
    generalize flr at_ = fa at *
    generalize flr L.start = fs at *
    have CL2 := Lib.hid (fun w' (hb : Below w4.heap.size w4 w') => CL.out w' hb)
    clear CL
    have sl := fun W => hsl W
    clear hle hle6 CT LN DN CI OK FM FA AB HL
    go_region_law? (first
      | (go_simp; go_at_call_of 37 (Value.int .i64 at_); refine (CF1.out _).mono ?_; rintro e wz ⟨rfl, rfl⟩)
      | (go_simp; go_at_call_of 37 (Value.int .i64 L.start); refine (CF2.out _).mono ?_; rintro e wz ⟨rfl, rfl⟩)
      | (go_simp; go_at_call 40; refine (CL2.out _ (Below.refl _ _).drew).mono ?_; rintro e w5 ⟨dv5, rfl, hown5, hb5⟩; obtain ⟨ea, ec, hee⟩ := tx_slice hown5; subst hee; have k7 : w5.cell? ⟨g, 6, none⟩ = some (.slice da L.data.size dc) := (K4.out.drew.kept hb5).cell 6; have k8 : w5.frozen? ⟨g, 6, none⟩ = false := (K4.out.drew.kept hb5).fz 6)
      | (refine step_slice_as rfl 59 _ _ rfl sliceElem.1 (.slice da L.data.size dc) (.int .i64 ((fa : Int) - (fs : Int))) (.slice ta2 nl tc2) rfl rfl (sl _) ?_))
    all_goals
      have K5 := (K4.out.drew.kept hb5)
      have D5 := Go.Joins.ownsRow_le hown5 HB4.out
      have S5 := S4.out.kept ((Below.refl _ _).drew.trans hb5)
      have P5 := own_kept P4.out ((Below.refl _ _).drew.trans hb5)
      have O5 := O4.out.then_ (Out.of_below ((Below.refl _ _).drew.trans hb5) (fun _ => False)) (fun i _ hi => hi.elim)
      have K6 := K5.set 6 (.slice ea nl ec)
      have D6 := own_far D5 (p := ⟨g, 6, none⟩) K5 (by decide) (.slice ea nl ec)
      have S6 := S5.far (p := ⟨g, 6, none⟩) K5 (by decide) (by decide) (by decide) (.slice ea nl ec)
      have P6 := own_far P5 (p := ⟨g, 6, none⟩) K5 (by decide) (.slice ea nl ec)
      have O6 := O5.set (q := ⟨g, 6, none⟩) (fun _ => rfl) (.slice ea nl ec)
      clear k3 k6 f6 k7 k8 hb5 hown5
      go_wp2_with fail
      go_meet
      exact ⟨.slice ea nl ec, K6, by rw [NB.out]; exact D6, S6, P6, O6⟩
  case rest =>
    obtain ⟨dv5, hk, hdat, hds, hpl, hout⟩ := hcut
    have K := Lib.hid hk; have D := Lib.hid hdat; have S5 := Lib.hid hds; have P := Lib.hid hpl; have O := Lib.hid hout
    clear hk hdat hds hpl hout K4 D4 P4 S4 O4
    have k3 : wc.cell? ⟨g, 3, none⟩ = some (.int .i64 L.start) := K.out.cell 3
    have f3 := K.out.fz 3
    go_wp2_with fail
    go_ret
    have K6 := K.out.set 3 (.int .i64 at_)
    refine ⟨rfl, ⟨dv5, pv4, ⟨?_, BG.out, S5.out.far (p := ⟨g, 3, none⟩) K.out (by decide) (by decide) (by decide) _, ?_, ?_, OK.out⟩⟩, O.out.set (q := ⟨g, 3, none⟩) (fun _ => rfl) _⟩
    · rw [CT.out]; exact K6
    · rw [CT.out]; exact own_far D.out (p := ⟨g, 3, none⟩) K.out (by decide) _
    · rw [CT.out]
      have := own_far P.out (p := ⟨g, 3, none⟩) K.out (by decide) (.int .i64 at_)
      show World.ownsRow _ B 3 1 pv4 (L.places.drop i).length (ints (L.places.drop i))
      rw [List.length_drop]
      exact this
end Go.Proofs.Ytplcddcdhnjfeaa
