/- Layer 12: Flush. -/
import Derived.Test.YtgafajbdmegfgaaGreatPolPut
import Derived.Test.YtgafajbdmegfgaaGreatPolDirty
set_option linter.unusedVariables false
set_option linter.unusedSimpArgs false
namespace Go.Proofs.YtgafajbdmegfgaaGreat
open Go.RowKit

/-- The pages of a list go to the device, one by one. -/
def flushL : List Int → Po → Lg → Dsk → Po × Lg × Dsk × Int
  | [], P, L, S => (P, L, S, 0)
  | id :: l, P, L, S =>
    if ((P.ss.getD (findL id P.ss).toNat Sl.fresh).flush P.base L S).2.2 = 0 then
      flushL l { P with ss := P.ss.set (findL id P.ss).toNat { (P.ss.getD (findL id P.ss).toNat Sl.fresh) with di := false } } ((P.ss.getD (findL id P.ss).toNat Sl.fresh).flush P.base L S).1 ((P.ss.getD (findL id P.ss).toNat Sl.fresh).flush P.base L S).2.1
    else (P, (P.ss.getD (findL id P.ss).toNat Sl.fresh).flush P.base L S)
def flushAll (P : Po) (L : Lg) (S : Dsk) : Po × Lg × Dsk × Int :=
  if (flushL (sortedD P) P L S).2.2.2 = 0 then ((flushL (sortedD P) P L S).1, (flushL (sortedD P) P L S).2.1, (flushL (sortedD P) P L S).2.2.1.barrier) else flushL (sortedD P) P L S
theorem flushL_step {x : Int} {l : List Int} {P : Po} {L : Lg} {S : Dsk} {j : Nat} (hj : j < P.ss.length) (hf : findL x P.ss = (j : Int)) :
    flushL (x :: l) P L S = if ((P.ss[j]).flush P.base L S).2.2 = 0 then flushL l { P with ss := P.ss.set j { P.ss[j] with di := false } } ((P.ss[j]).flush P.base L S).1 ((P.ss[j]).flush P.base L S).2.1 else (P, (P.ss[j]).flush P.base L S) := by
  have e : P.ss.getD (findL x P.ss).toNat Sl.fresh = P.ss[j] := by rw [hf, Int.toNat_natCast, List.getD_eq_getElem?_getD, List.getElem?_eq_getElem hj]; rfl
  have e2 : (findL x P.ss).toNat = j := by rw [hf, Int.toNat_natCast]
  rw [flushL, e, e2]
theorem sl_flush_pend {L : Lg} (h : L.ok) (s : Sl) (base : Nat) (S : Dsk) : (s.flush base L S).2.1.pend.length ≤ S.pend.length + 4102 := by
  have h1 := flush_pend h S (s.st : Int)
  unfold Sl.flush
  split
  · have h2 := s.wr_pend base 4 0 (L.flush S (s.st : Int)).2.1
    show (s.wr base 4 0 (L.flush S (s.st : Int)).2.1).1.pend.length ≤ _
    omega
  · omega
def PFlushPost (w : World) (B : Nat) (I : Wd) (J : Pd) (r : Po × Lg × Dsk × Int) (e : Ending) (w' : World) : Prop :=
  ∃ (p' : Value), e = .returned (.int .i64 r.2.2.2) ∧ Wl w' B ⟨I.g, I.d.with p', I.dv, I.pv⟩ r.2.1 r.2.2.1 ∧ Pq w' B J r.1 ∧ Out w w' (PF B w)
set_option maxRecDepth 100000 in
set_option maxHeartbeats 8000000 in
theorem pflush_any {w : World} {B : Nat} {I : Wd} {J : Pd} {P : Po} {L : Lg} {S : Dsk} (hW : Wl w B I L S) (hP : Pq w B J P) (ed : J.dp = I.d.ptr) (el : J.lp = I.ptr)
    (hgood : ∀ s ∈ P.ss, 0 ≤ s.id ∧ s.p.ok) (hB : B ≤ w.heap.size) (hp : S.pend.length ≤ 1099511627776) :
    Calls Tryz.prog 13 #[J.ptr] w (PFlushPost w B I J (flushAll P L S)) := by
  obtain ⟨gI, d, dv, pv⟩ := I
  obtain ⟨g, sv, bs, dp, lp⟩ := J
  dsimp only at ed el
  have W := Lib.hid hW; have PQ := Lib.hid hP; have ED := Lib.hid ed; have EL := Lib.hid el; have GOOD := Lib.hid hgood; have HB := Lib.hid hB; have HP := Lib.hid hp
  have CD := Lib.hid (dirty_any hP)
  have LN := Lib.hid (show (sortedD P).length ≤ 256 from by rw [sortedD_len]; exact Nat.le_trans (dirtyL_len _) hP.few)
  have MEM := Lib.hid (show ∀ x ∈ sortedD P, ∃ s ∈ P.ss, s.id = x from fun x hx => by obtain ⟨s, hs, -, e⟩ := sortedD_mem.1 hx; exact ⟨s, hs, e⟩)
  have FA := Lib.hid (show flushAll P L S = if (flushL (sortedD P) P L S).2.2.2 = 0 then ((flushL (sortedD P) P L S).1, (flushL (sortedD P) P L S).2.1, (flushL (sortedD P) P L S).2.2.1.barrier) else flushL (sortedD P) P L S from by rw [flushAll])
  clear hW hP ed el hgood hB hp
  unfold Pd.ptr at CD ⊢
  obtain ⟨D, hD⟩ : ∃ D, D = sortedD P := ⟨_, rfl⟩
  rw [← hD] at LN MEM FA
  have HDD := Lib.hid hD
  clear hD
  dsimp only at CD ⊢
  go_enter Tryz.func13, Tryz.ntmps13
  go_wp2_with fail
  refine CD.out.mono ?_
  rintro e w1 ⟨v, rfl, ho, hb⟩
  rw [← HDD.out] at ho
  clear HDD
  obtain ⟨va, vc, rfl⟩ := tx_slice ho
  have W1 := Lib.hid (W.out.kept hb); have Q1 := Lib.hid (PQ.out.kept hb); have OW := Lib.hid ho
  have O1 := Lib.hid (show Out w w1 (PF B w) from .of_below hb _)
  have BW := Lib.hid HB.out
  clear ho hb CD W PQ
  obtain ⟨n, hn⟩ : ∃ n, n = D.length := ⟨_, rfl⟩
  have HN := Lib.hid hn
  rw [← hn] at LN OW ⊢
  have n256 : n ≤ 256 := LN.out
  clear hn
  as_aux_lemma =>
    go_wp2_with fail
    go_loopw [11] (fun i wr => ∃ (q : Nat) (p' : Value) (P' : Po) (L' : Lg) (S' : Dsk), q ≤ n ∧ i = .int .i64 q ∧ Wl wr B ⟨gI, d.with p', dv, pv⟩ L' S' ∧ Pq wr B ⟨g, sv, bs, dp, lp⟩ P' ∧ flushL D P L S = flushL (D.drop q) P' L' S' ∧ P'.base = P.base ∧ P'.pages = P.pages ∧ (∀ s ∈ P'.ss, 0 ≤ s.id ∧ s.p.ok) ∧ (∀ x, (∃ s ∈ P.ss, s.id = x) → ∃ s ∈ P'.ss, s.id = x) ∧
      S'.pend.length ≤ S.pend.length + 4102 * q ∧ wr.ownsRow w.heap.size 3 1 (.slice va n vc) n (D.map (Value.int .i64)) ∧ Out w wr (PF B w)) (fun i _ => n - (intOf i).toNat)
    case atStart => exact ⟨0, d.p, P, L, S, Nat.zero_le _, rfl, W1.out, Q1.out, rfl, rfl, rfl, GOOD.out, fun x h => h, Nat.le_refl _, OW.out, O1.out⟩
    case round =>
      obtain ⟨q, p', P', L', S', hq, rfl, hW, hQ, hfl, hpb, hpp, hgd, hids, hpl, hown, ho⟩ := hrel
      have W2 := Lib.hid hW; have Q2 := Lib.hid hQ; have FL := Lib.hid hfl; have GD := Lib.hid hgd; have IDS := Lib.hid hids; have PL := Lib.hid hpl; have O2 := Lib.hid ho; have OW2 := Lib.hid hown; have PB := Lib.hid hpb; have PP := Lib.hid hpp
      clear hW hQ hfl hgd hids hpl ho hown hpb hpp W1 Q1 OW O1
      by_cases hlt : q < n
      · have HLT := Lib.hid hlt
        have hqd : q < D.length := by rw [← HN.out]; exact hlt
        obtain ⟨x, hx⟩ : ∃ x, x = D[q] := ⟨_, rfl⟩
        have hdrop : D.drop q = x :: D.drop (q + 1) := by rw [hx]; exact List.drop_eq_getElem_cons hqd
        obtain ⟨s0, hs0, hs0x⟩ := IDS.out x (MEM.out x (by rw [hx]; exact List.getElem_mem hqd))
        obtain ⟨j, hj, hf, hjid⟩ : ∃ (j : Nat) (hj : j < P'.ss.length), findL x P'.ss = (j : Int) ∧ (P'.ss[j]).id = x := by
          rcases findL_cases x P'.ss with ⟨-, h⟩ | ⟨j, hj, h1, h2, -⟩
          · exact absurd hs0x (h s0 hs0)
          · exact ⟨j, hj, h1, h2⟩
        have hjb : j < bs.length := by have := Q2.out.bl; dsimp only at this; rw [this]; exact hj
        have hgood := GD.out _ (List.getElem_mem hj)
        have hidr : (P'.ss[j]).id.toNat < P'.pages := by
          rcases Q2.out.ok.ids _ (List.getElem_mem hj) with e | ⟨e1, e2⟩ <;> omega
        obtain ⟨sg, scap, esv, -, hsgl, hc⟩ := Q2.out.at_ j hjb
        have SGL := Lib.hid hsgl
        clear hsgl
        have q5 : wr.cell? ⟨g, 5, none⟩ = some (.slice (some ⟨sg, 0, none⟩) P'.ss.length scap) := by have := Q2.out.cells.2.2.2.2.2.1; dsimp only at this esv; rw [← esv]; exact this
        obtain ⟨m, hm⟩ : ∃ m, m = P'.ss.length := ⟨_, rfl⟩
        have HM := Lib.hid hm
        rw [← hm] at q5
        have hjm : j < m := by rw [hm]; exact hj
        have hjmI : (j : Int) < (m : Int) := by omega
        have m256 : m ≤ 256 := by rw [hm]; exact Q2.out.few
        have ro : wr.cell? ⟨0, 0, none⟩ = wr.cell? ⟨0, 0, none⟩ := rfl
        obtain ⟨gv, capv, ev, hcv⟩ : ∃ gv cv, va = some ⟨gv, 0, none⟩ ∧ vc = cv ∧ wr.cell? ⟨gv, q, none⟩ = some (.int .i64 x) := by
          rcases OW2.out.2 with ⟨_, h0⟩ | ⟨gv, cap, cur, hv, hg, hh, h1, h2, h3, h4⟩
          · omega
          · injection hv with e1 _ e3
            refine ⟨gv, cap, e1, e3, ?_⟩
            have := OW2.out.cells (g := gv) (by rw [e1]; rfl) q (.int .i64 x) (by rw [List.getElem?_map, List.getElem?_eq_getElem hqd, ← hx]; rfl)
            rw [Addr.add_lit, Nat.zero_add] at this
            exact this
        obtain ⟨rfl, yq⟩ := hcv
        subst ev
        have CF := Lib.hid (fun w' (hb : Below wr.heap.size wr w') => show Calls Tryz.prog 26 #[.pointer (some ⟨g, 0, none⟩), .int .i64 x] w' (fun e w'' => e = .returned (.int .i64 (j : Int)) ∧ Below w'.heap.size w' w'') from by
          have h := find_any (Q2.out.kept hb) x
          rw [hf] at h
          exact h)
        have SZ := Lib.hid (show B ≤ wr.heap.size from Nat.le_trans HB.out O2.out.size)
        have CW := Lib.hid (fun w' (hb : Below wr.heap.size wr w') => pwrite_any (W2.out.kept hb) (Q2.out.kept hb) ED.out EL.out j hj hjb (P'.ss[j]).id.toNat (by omega) hidr hgood.2 (Nat.le_trans SZ.out hb.size) (by have := PL.out; have := HP.out; omega))
        have FS := Lib.hid (show flushL (D.drop q) P' L' S' = if ((P'.ss[j]).flush P'.base L' S').2.2 = 0 then flushL (D.drop (q + 1)) { P' with ss := P'.ss.set j { P'.ss[j] with di := false } } ((P'.ss[j]).flush P'.base L' S').1 ((P'.ss[j]).flush P'.base L' S').2.1 else (P', (P'.ss[j]).flush P'.base L' S') from by rw [hdrop]; exact flushL_step hj hf)
        have PE := Lib.hid (sl_flush_pend W2.out.ok (P'.ss[j]) P'.base S')
        have GD2 := Lib.hid (show ∀ s ∈ (P'.ss.set j { P'.ss[j] with di := false }), 0 ≤ s.id ∧ s.p.ok from fun s hs => by
          rcases List.mem_or_eq_of_mem_set hs with h1 | rfl
          · exact GD.out s h1
          · exact hgood)
        have IDS2 := Lib.hid (show ∀ x, (∃ s ∈ P.ss, s.id = x) → ∃ s ∈ (P'.ss.set j { P'.ss[j] with di := false }), s.id = x from fun x h => by
          obtain ⟨s, hs, e⟩ := IDS.out x h
          obtain ⟨t, ht, rfl⟩ := List.mem_iff_getElem.1 hs
          by_cases e2 : t = j
          · subst e2
            exact ⟨_, List.mem_set ht _, e⟩
          · exact ⟨P'.ss[t], List.mem_iff_getElem.2 ⟨t, by rw [List.length_set]; exact ht, List.getElem_set_ne (Ne.symm e2) _⟩, e⟩)
        have KW := Lib.hid (show ∀ (wf : World) (PX : Po), (PX = if ((P'.ss[j]).flush P'.base L' S').2.2 = 0 then { P' with ss := P'.ss.set j { P'.ss[j] with di := false } } else P') → Pq wf B ⟨g, sv, bs, dp, lp⟩ PX → wf.cell? ⟨g, 5, none⟩ = some (.slice (some ⟨sg, 0, none⟩) m scap) ∧ wf.cell? ⟨sg, j, none⟩ = some (.pointer (some ⟨bs[j], 0, none⟩)) from fun wf PX e hx => by
          have hl : PX.ss.length = m := by
            rw [e, HM.out]
            split <;> simp
          have c5 := hx.cells.2.2.2.2.2.1
          obtain ⟨g2, c2, e2, -, -, hc2⟩ := hx.at_ j hjb
          dsimp only at c5 e2 esv hc2
          rw [esv, ← HM.out] at e2
          injection e2 with e3 e4 e5
          injection e3 with e3
          injection e3 with e3
          rw [esv, ← HM.out] at c5
          exact ⟨c5, by rw [e3]; exact hc2⟩)
        obtain ⟨R, hR⟩ : ∃ R, R = (P'.ss[j]).flush P'.base L' S' := ⟨_, rfl⟩
        have HJ := Lib.hid hj
        obtain ⟨bj, hbj⟩ : ∃ bj, bj = bs[j] := ⟨_, rfl⟩
        dsimp only at CW hc
        rw [← hR] at CW FS PE KW
        rw [← hbj] at CW hc KW
        unfold Pd.ptr at CW
        dsimp only at CW
        clear hx hdrop hs0 hs0x hf hjid hgood hidr hm hR hbj esv ro
        as_aux_lemma =>
          go_wp2_with fail
          go_region_held3 (fun w' => w'.cell? ⟨g, 5, none⟩ = some (.slice (some ⟨sg, 0, none⟩) m scap) ∧ w'.cell? ⟨sg, j, none⟩ = some (.pointer (some ⟨bj, 0, none⟩))) (first | exact kw | exact ka | exact ⟨q5, hc⟩)
            (first
              | (go_simp; go_at_call 26; refine (CF.out _ (Below.refl _ _).drew).mono ?_; rintro e wa ⟨rfl, hba⟩; have bb : Below wr.heap.size wr wa := below_then (Below.refl wr.heap.size wr).drew hba (Nat.le_refl _); have ka : wa.cell? ⟨g, 5, none⟩ = some (.slice (some ⟨sg, 0, none⟩) m scap) ∧ wa.cell? ⟨sg, j, none⟩ = some (.pointer (some ⟨bj, 0, none⟩)) := ⟨(bb.cell (p := ⟨g, 5, none⟩) Q2.out.box.lt).trans q5, (bb.cell (p := ⟨sg, j, none⟩) SGL.out).trans hc⟩)
              | (go_simp; go_at_call 34; refine (CW.out _ bb).mono ?_; rintro e wf ⟨rfl, p2, hw2, hq2, ho2⟩; have kw : wf.cell? ⟨g, 5, none⟩ = some (.slice (some ⟨sg, 0, none⟩) m scap) ∧ wf.cell? ⟨sg, j, none⟩ = some (.pointer (some ⟨bj, 0, none⟩)) := KW.out _ _ rfl hq2))
          have W3 := Lib.hid (show Wl wf B ⟨gI, d.with p2, dv, pv⟩ R.1 R.2.1 from hw2); have Q3 := Lib.hid hq2
          have O3 := Lib.hid (pf_then O2.out (pf_then (.of_below bb _) ho2))
          have OW3 := Lib.hid (own_pf (own_kept OW2.out bb) ho2 (by unfold plT; decide))
          have CO := Lib.hid (FL.out.trans FS.out)
          clear hw2 hq2 ho2 kw ka bb hba W2 Q2 O2 OW2 CF CW KW q5 hc yq FL FS
          obtain ⟨L2, S2, e2⟩ := R
          dsimp only at W3 Q3 CO PE ⊢
          by_cases he : e2 = 0
          · subst he
            rw [if_pos rfl] at CO
            have Q4 := Lib.hid (show Pq wf B ⟨g, sv, bs, dp, lp⟩ { P' with ss := P'.ss.set j { (P'.ss[j]'HJ.out) with di := false } } from by have := Q3.out; rw [if_pos rfl] at this; exact this)
            clear Q3
            go_wp2
            go_roundw
            case rel => exact ⟨q + 1, p2, _, L2, S2, by have := HLT.out; omega, by go_num, W3.out, Q4.out, CO.out, PB.out, PP.out, GD2.out, IDS2.out, by have := PE.out; have := PL.out; omega, OW3.out, O3.out⟩
            case measure => have := HLT.out; simp [intOf]; omega
          · rw [if_neg he] at CO
            have Q4 := Lib.hid (show Pq wf B ⟨g, sv, bs, dp, lp⟩ P' from by have := Q3.out; rw [if_neg he] at this; exact this)
            have hne : (e2 != 0) = true := by simp [he]
            have hne' : (e2 == 0) = false := by simp [he]
            have FE := Lib.hid (show flushAll P L S = (P', L2, S2, e2) from by rw [FA.out, CO.out]; exact if_neg he)
            clear he Q3
            go_wp2
            go_ret
            rw [FE.out]
            exact ⟨p2, rfl, W3.out, Q4.out, O3.out⟩
      · obtain rfl : q = n := by omega
        have CO := Lib.hid (show flushL D P L S = (P', L', S', 0) from by rw [FL.out, HN.out, List.drop_length]; rfl)
        have FE := Lib.hid (show flushAll P L S = (P', L', S'.barrier) from by rw [FA.out, CO.out]; exact if_pos rfl)
        have cb := barrier_any W2.out.dsk
        have CB := Lib.hid (show Calls Tryz.prog 23 #[.pointer (some ⟨d.g, 0, none⟩)] wr _ from cb)
        clear cb
        have c0 : wr.cell? ⟨g, 0, none⟩ = some (.pointer (some ⟨d.g, 0, none⟩)) := by have := Q2.out.cells.1; dsimp only at this; rw [this, ED.out]; rfl
        clear hlt hq FL
        as_aux_lemma =>
          go_wp2_with fail
          refine CB.out.mono ?_
          rintro e wc ⟨rfl, p2, hd2, ho2⟩
          have W3 := Lib.hid (show Wl wc B ⟨gI, d.with p2, dv, pv⟩ L' S'.barrier.1 from W2.out.disk hd2 ho2)
          have Q3 := Lib.hid (Q2.out.df W2.out (df_one W2.out.dsk ho2))
          have O3 := Lib.hid (pf_then O2.out (W2.out.df_out (df_one W2.out.dsk ho2)))
          clear hd2 ho2 CB c0 W2 Q2 O2
          generalize S'.barrier = X at *
          obtain ⟨S2, e2⟩ := X
          dsimp only at W3 FE ⊢
          go_wp2
          go_ret
          rw [FE.out]
          exact ⟨p2, rfl, W3.out, Q3.out, O3.out⟩
end Go.Proofs.YtgafajbdmegfgaaGreat
