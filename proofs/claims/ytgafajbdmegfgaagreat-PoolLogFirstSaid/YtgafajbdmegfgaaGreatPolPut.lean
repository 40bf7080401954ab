/- Layer 12: makeRoom, Put. Layer 12: Put. -/
import Derived.Test.YtgafajbdmegfgaaGreatPolGet
set_option linter.unusedVariables false
set_option linter.unusedSimpArgs false
namespace Go.Proofs.YtgafajbdmegfgaaGreat
open Go.RowKit

/-- What makeRoom does to the pool, its log and its device. -/
def RoomRel (P : Po) (L : Lg) (S : Dsk) (P' : Po) (L' : Lg) (S' : Dsk) (i : Nat) (er : Int) : Prop :=
  (∃ ok, Sp P P' i ok ∧ ok = true ∧ L' = L ∧ S' = S ∧ er = 0) ∨
  (∃ (P1 : Po) (k : Nat) (hi : i < P1.ss.length), Sp P P1 k false ∧ i = P1.hand ∧ (L', S', er) = (P1.ss[i]).flush P1.base L S ∧
    P' = { P1 with hand := (i + 1) % P1.ss.length, ss := if er = 0 then P1.ss.set i { P1.ss[i] with di := false } else P1.ss })
def RoomPost (w : World) (B : Nat) (I : Wd) (J : Pd) (P : Po) (L : Lg) (S : Dsk) (e : Ending) (w' : World) : Prop :=
  ∃ (i : Nat) (er : Int) (p' : Value) (J' : Pd) (P' : Po) (L' : Lg) (S' : Dsk), e = .returned (.tuple #[.int .i64 (i : Int), .int .i64 er]) ∧ Wl w' B ⟨I.g, I.d.with p', I.dv, I.pv⟩ L' S' ∧ Pq w' B J' P' ∧ J'.g = J.g ∧ J'.dp = J.dp ∧ J'.lp = J.lp ∧
    RoomRel P L S P' L' S' i er ∧ i < P'.ss.length ∧ Out w w' (PF B w)
set_option maxRecDepth 100000 in
set_option maxHeartbeats 8000000 in
theorem room_pool {w : World} {B : Nat} {I : Wd} {J : Pd} {P : Po} {L : Lg} {S : Dsk} (hW : Wl w B I L S) (hP : Pq w B J P) (ed : J.dp = I.d.ptr) (el : J.lp = I.ptr)
    (hgood : ∀ s ∈ P.ss, 0 ≤ s.id ∧ s.p.ok) (hB : B ≤ w.heap.size) (hp : S.pend.length ≤ 2199023255552) :
    Calls Tryz.prog 32 #[J.ptr] w (RoomPost w B I J P L S) := by
  have W := Lib.hid hW; have PQ := Lib.hid hP; have ED := Lib.hid ed; have EL := Lib.hid el; have GOOD := Lib.hid hgood; have HB := Lib.hid hB; have HP := Lib.hid hp
  have CS := Lib.hid (spare_any hP hB)
  clear hW hP ed el hgood hB hp
  unfold Pd.ptr at CS ⊢
  go_enter Tryz.func32, Tryz.ntmps32
  go_wp2_with fail
  refine CS.out.mono ?_
  rintro e w1 ⟨i, ok, J1, P1, rfl, hq, hsp, eg, edp, elp, ho⟩
  have Q1 := Lib.hid hq; have SP := Lib.hid hsp; have EG := Lib.hid eg; have EDP := Lib.hid edp; have ELP := Lib.hid elp
  have O1 := Lib.hid (sf_pf ho)
  have W1 := Lib.hid (W.out.sf ho)
  have HB1 := Lib.hid (Nat.le_trans HB.out ho.size)
  clear hq hsp eg edp elp ho CS W PQ
  rcases hok : ok with _ | _
  · subst hok
    obtain ⟨hh, hl⟩ := SP.out.hl rfl
    obtain ⟨i0, hi0⟩ : ∃ i0, i0 = P1.hand := ⟨_, rfl⟩
    have HI := Lib.hid hi0
    have his : i0 < P1.ss.length := by rw [hi0]; exact hh
    have hib : i0 < J1.bs.length := by rw [Q1.out.bl]; exact his
    obtain ⟨n, hn⟩ : ∃ n, n = P1.ss.length := ⟨_, rfl⟩
    have HN := Lib.hid hn
    obtain ⟨-, -, -, -, -, q5, q6⟩ := Q1.out.cells
    have f6 := Q1.out.box.fz 6
    rw [← hi0] at q6
    have hin : i0 < n := by rw [hn]; exact his
    have n256 : n ≤ 256 := by rw [hn]; exact Q1.out.few
    have nn0 : ¬ (n : Int) = 0 := by omega
    have nn0b : ((n : Int) == 0) = false := by simp; omega
    have nn1 : ¬ n = 0 := by omega
    have nI : (i0 : Int) < (n : Int) := by omega
    have tm : ((i0 : Int) + 1).tmod (n : Int) = (((i0 + 1) % n : Nat) : Int) := by
      rw [Int.tmod_eq_emod_of_nonneg (by omega), Int.natCast_emod, Int.natCast_add]; rfl
    have wm : wrap64 (((i0 + 1) % n : Nat) : Int) = (((i0 + 1) % n : Nat) : Int) := by
      have h1 := Nat.mod_lt (i0 + 1) (show 0 < n by omega)
      generalize (i0 + 1) % n = r at h1
      unfold wrap64; omega
    have hm : (i0 + 1) % n < n := Nat.mod_lt _ (by omega)
    have QH := Lib.hid (Q1.out.setHand ((i0 + 1) % n) (by rw [← hn]; exact hm))
    have KB := Lib.hid Q1.out.box
    have OH := Lib.hid (pf_then O1.out (pf_grown (only_set ⟨rfl, rfl, rfl, Nat.le_refl _, fun _ _ _ => rfl⟩ 6 (.int .i64 (((i0 + 1) % n : Nat) : Int))) KB.out (.inl rfl) Q1.out.bg))
    have WH := Lib.hid (W1.out.one (only_set ⟨rfl, rfl, rfl, Nat.le_refl _, fun _ _ _ => rfl⟩ 6 (.int .i64 (((i0 + 1) % n : Nat) : Int))) KB.out (.inl rfl))
    obtain ⟨sg, scap, esv, -, -, hc⟩ := QH.out.at_ i0 hib
    have z5 := QH.out.cells.2.2.2.2.2.1
    rw [esv] at q5 z5
    have q5' : w1.cell? ⟨J1.g, 5, none⟩ = some (.slice (some ⟨sg, 0, none⟩) n scap) := by rw [hn]; exact q5
    have z5' : (w1.setCell ⟨J1.g, 6, none⟩ (.int .i64 (((i0 + 1) % n : Nat) : Int))).cell? ⟨J1.g, 5, none⟩ = some (.slice (some ⟨sg, 0, none⟩) n scap) := by rw [hn] at z5 ⊢; exact z5
    clear q5 z5 esv
    -- the slot
    obtain ⟨j, hj, hid0, hok0⟩ : ∃ id : Nat, (P1.ss[i0]).id = (id : Int) ∧ id < P1.pages ∧ (P1.ss[i0]).p.ok := by
      have h2 : i0 < P.ss.length := by
        rcases SP.out.new with e | ⟨_, e, _⟩
        · omega
        · cases e
      obtain ⟨h3, hlk⟩ := SP.out.same i0 h2
      have hg := GOOD.out _ (List.getElem_mem h2)
      rcases Q1.out.ok.ids _ (List.getElem_mem his) with e | ⟨e1, e2⟩
      · rw [hlk.1] at e; omega
      · exact ⟨(P1.ss[i0]).id.toNat, by omega, by omega, by rw [hlk.2.1]; exact hg.2⟩
    have CW := Lib.hid (pwrite_any WH.out QH.out (by rw [EDP.out]; exact ED.out) (by rw [ELP.out]; exact EL.out) i0 his hib j hj hid0 hok0 (Nat.le_trans HB1.out (by simp [World.setCell])) HP.out)
    have HIS := Lib.hid his
    obtain ⟨bi, hbi⟩ : ∃ bi, bi = J1.bs[i0] := ⟨_, rfl⟩
    rw [← hbi] at hc CW
    obtain ⟨hd, hhd⟩ : ∃ hd, hd = (i0 + 1) % n := ⟨_, rfl⟩
    have HHD := Lib.hid hhd
    rw [← hhd] at tm wm hm hc z5' CW OH
    rw [← EG.out]
    unfold Pd.ptr at CW
    clear hi0 hib hn hj hid0 hok0 hbi hhd hh hl QH WH W1 Q1
    go_upto_region 6 with fail
    generalize w1.setCell ⟨J1.g, 6, none⟩ (.int .i64 (hd : Int)) = w2 at *
    clear q5' q6 f6
    go_wp2_with fail
    refine CW.out.mono ?_
    rintro e w3 ⟨rfl, p', hw, hq, ho⟩
    have W3 := Lib.hid hw; have Q3 := Lib.hid hq; have O3 := Lib.hid (pf_then OH.out ho)
    clear hw hq ho CW OH z5' hc
    go_wp2
    refine bodyPost_ret (v := .tuple #[.int .i64 (i0 : Int), .int .i64 ((P1.ss[i0]'HIS.out).flush P1.base L S).2.2]) (by simp [results, Tryz.results32, go_sem]) rfl ?_
    refine ⟨i0, _, p', J1, _, _, _, rfl, W3.out, Q3.out, EG.out, EDP.out, ELP.out, .inr ⟨P1, i, HIS.out, SP.out, HI.out, rfl, ?_⟩, ?_, O3.out⟩
    · rw [HHD.out, HN.out]
      split <;> rfl
    · show i0 < (if _ then _ else _ : Po).ss.length
      split
      · show i0 < (P1.ss.set i0 _).length
        rw [List.length_set]; exact HIS.out
      · exact HIS.out
  · subst hok
    have hilt : i < P1.ss.length := by rcases SP.out.lt with h | h; exact h; cases h
    have HIL := Lib.hid hilt
    clear hilt
    go_wp2
    refine bodyPost_ret (v := .tuple #[.int .i64 (i : Int), .int .i64 0]) (by simp [results, Tryz.results32, go_sem]) rfl ?_
    exact ⟨i, 0, I.d.p, J1, P1, L, S, rfl, W1.out, Q1.out, EG.out, EDP.out, ELP.out, .inl ⟨true, SP.out, rfl, rfl, rfl, rfl⟩, HIL.out, O1.out⟩
end Go.Proofs.YtgafajbdmegfgaaGreat
namespace Go.Proofs.YtgafajbdmegfgaaGreat
open Go.RowKit

def PutRel (P : Po) (L : Lg) (S : Dsk) (id : Nat) (x : Pg) (st : Nat) (P' : Po) (L' : Lg) (S' : Dsk) (er : Int) : Prop :=
  (∃ (j : Nat) (hj : j < P.ss.length), (P.ss[j]).id = (id : Int) ∧ L' = L ∧ S' = S ∧ er = 0 ∧ P' = { P with ss := P.ss.set j ⟨id, x, st, true, true⟩ }) ∨
  ((∀ s ∈ P.ss, s.id ≠ (id : Int)) ∧ ∃ (P1 : Po) (i : Nat), RoomRel P L S P1 L' S' i er ∧ i < P1.ss.length ∧ P' = if er = 0 then { P1 with ss := P1.ss.set i ⟨id, x, st, true, true⟩ } else P1)
def PutPost (w : World) (B : Nat) (I : Wd) (J : Pd) (P : Po) (L : Lg) (S : Dsk) (id : Nat) (x : Pg) (st : Nat) (e : Ending) (w' : World) : Prop :=
  ∃ (er : Int) (p' : Value) (J' : Pd) (P' : Po) (L' : Lg) (S' : Dsk), e = .returned (.int .i64 er) ∧ Wl w' B ⟨I.g, I.d.with p', I.dv, I.pv⟩ L' S' ∧ Pq w' B J' P' ∧ J'.g = J.g ∧ J'.dp = J.dp ∧ J'.lp = J.lp ∧ PutRel P L S id x st P' L' S' er ∧ Out w w' (PF B w)
theorem RoomRel.ids {P P' : Po} {L L' : Lg} {S S' : Dsk} {i : Nat} {er : Int} (h : RoomRel P L S P' L' S' i er) {id : Int} (hn : ∀ s ∈ P.ss, s.id ≠ id) (h0 : 0 ≤ id) : (∀ s ∈ P'.ss, s.id ≠ id) ∧ P'.pages = P.pages := by
  rcases h with ⟨ok, hsp, -, -, -, -⟩ | ⟨P1, k, hi, hsp, -, -, rfl⟩
  · exact ⟨hsp.ids hn h0, hsp.pages⟩
  · refine ⟨fun s hs => ?_, hsp.pages⟩
    have h1 := hsp.ids hn h0
    change s ∈ (if er = 0 then P1.ss.set i { P1.ss[i] with di := false } else P1.ss) at hs
    by_cases e : er = 0
    · rw [if_pos e] at hs
      rcases List.mem_or_eq_of_mem_set hs with h2 | rfl
      · exact h1 s h2
      · have h5 := h1 _ (List.getElem_mem hi)
        exact h5
    · rw [if_neg e] at hs
      exact h1 s hs
set_option maxRecDepth 100000 in
set_option maxHeartbeats 16000000 in
theorem pput_any {w : World} {B : Nat} {I : Wd} {J : Pd} {P : Po} {L : Lg} {S : Dsk} (hW : Wl w B I L S) (hP : Pq w B J P) (ed : J.dp = I.d.ptr) (el : J.lp = I.ptr) (id : Nat) (hid : id < P.pages) (x : Pg) (hx : x.ok) (st : Nat) (hst : st ≤ 9223372036854775807)
    (hgood : ∀ s ∈ P.ss, 0 ≤ s.id ∧ s.p.ok) (hB : B ≤ w.heap.size) (hp : S.pend.length ≤ 2199023255552) :
    Calls Tryz.prog 12 #[J.ptr, .int .i64 (id : Int), .agg x.cs, .int .i64 (st : Int)] w (PutPost w B I J P L S id x st) := by
  have W := Lib.hid (hW.kept ((Below.refl w.heap.size w).alloc (Nat.le_refl _) (.cells x.cs 41))); have PQ := Lib.hid (hP.alloc (.cells x.cs 41))
  have ED := Lib.hid ed; have EL := Lib.hid el; have GOOD := Lib.hid hgood; have HP := Lib.hid hp; have HID := Lib.hid hid; have ST := Lib.hid hst
  have HB := Lib.hid (show B ≤ (w.alloc (.cells x.cs 41)).heap.size from Nat.le_trans hB (by simp))
  have O0 := Lib.hid (show Out w (w.alloc (.cells x.cs 41)) (PF B w) from (Out.refl w _).alloc _)
  have K0 := Lib.hid (Bk.new w 41 x.cs)
  have hid1 : id < 1024 := Nat.lt_of_lt_of_le hid hP.ok.p2
  have hI0 : (0 : Int) ≤ (id : Int) := by omega
  have hI1 : (id : Int) < (P.pages : Int) := by omega
  have hdec : (decide ((0 : Int) ≤ (id : Int)) && decide ((id : Int) < (P.pages : Int))) = true := by rw [decide_eq_true hI0, decide_eq_true hI1]; rfl
  have CH := Lib.hid (phas_any PQ.out (id : Int))
  rw [hdec] at CH
  have CC := Lib.hid (fun w' => show Calls Tryz.prog 31 #[.agg x.cs] w' (fun e w'' => e = .returned (.int .i64 0) ∧ Below w'.heap.size w' w'') from by
    have h := check_any x w'
    rw [Pg.err_ok hx] at h
    exact h)
  have hst0 : ¬ (st : Int) < 0 := by omega
  have hst0d : decide ((st : Int) < 0) = false := decide_eq_false hst0
  obtain ⟨G6, hG6⟩ : ∃ G6, G6 = w.heap.size := ⟨_, rfl⟩
  rw [← hG6] at K0
  have HG6 := Lib.hid hG6
  clear hW hP ed el hgood hB hp hid hx hst hI0 hI1 hdec hG6
  unfold Pd.ptr at CH ⊢
  go_enter Tryz.func12, Tryz.ntmps12
  go_upto_region 1 with fail
  rw [← HG6.out]
  go_wp2_with fail
  refine CH.out.mono ?_
  rintro e w1 ⟨rfl, rfl⟩
  clear CH
  generalize w.alloc (.cells x.cs 41) = w1 at *
  go_wp2_with (refine load_page_if _ rfl (by first | rfl | kernel_rfl) G6 x rfl K0.out ?_)
  refine (CC.out _).mono ?_
  rintro e w2 ⟨rfl, hb⟩
  have W2 := Lib.hid (W.out.kept hb); have Q2 := Lib.hid (PQ.out.kept hb); have K2 := Lib.hid (K0.out.kept hb)
  have O2 := Lib.hid (pf_then O0.out (.of_below hb _))
  have HB2 := Lib.hid (Nat.le_trans HB.out hb.size)
  clear hb CC W PQ K0 O0 HB
  have CF := Lib.hid (find_any Q2.out (id : Int))
  unfold Pd.ptr at CF
  go_wp2_with fail
  refine CF.out.mono ?_
  rintro e w3 ⟨rfl, hb⟩
  have W3 := Lib.hid (W2.out.kept hb); have Q3 := Lib.hid (Q2.out.kept hb); have K3 := Lib.hid (K2.out.kept hb)
  have O3 := Lib.hid (pf_then O2.out (.of_below hb _))
  have HB3 := Lib.hid (Nat.le_trans HB2.out hb.size)
  clear hb CF W2 Q2 K2 O2 HB2
  rcases findL_cases (id : Int) P.ss with ⟨hf, hno⟩ | ⟨i, hj, hf, hjid, -⟩
  · rw [hf]
    clear hf
    have NO := Lib.hid hno
    have CR := Lib.hid (room_pool W3.out Q3.out ED.out EL.out GOOD.out HB3.out HP.out)
    unfold Pd.ptr at CR
    clear hno
    go_wp2_with fail
    refine CR.out.mono ?_
    rintro e w4 ⟨i, er, p', J1, P1, L1, S1, rfl, hw, hq, eg, edp, elp, hr, hil, ho⟩
    have W4 := Lib.hid hw; have Q4 := Lib.hid hq; have EG := Lib.hid eg; have EDP := Lib.hid edp; have ELP := Lib.hid elp; have RR := Lib.hid hr; have HIL := Lib.hid hil
    have O4 := Lib.hid (pf_then O3.out ho)
    have K4 := Lib.hid (bk_pf ho K3.out (by unfold plT; decide))
    have PGS := Lib.hid (hr.ids NO.out (by omega)).2
    have NO1 := Lib.hid (hr.ids NO.out (by omega)).1
    clear hw hq eg edp elp hr hil ho CR W3 Q3 K3 O3 HB3
    by_cases he : er = 0
    · subst he
      rw [← EG.out]
      obtain ⟨wv, hwv⟩ : ∃ wv, wv = w4.drew := ⟨_, rfl⟩
      have HWV := Lib.hid hwv.symm
      have Q7 := Lib.hid (show Pq wv B J1 P1 by rw [hwv]; exact Q4.out.drew)
      have K7 := Lib.hid (show Bk wv G6 41 x.cs by rw [hwv]; exact K4.out.drew)
      have O7 := Lib.hid (show Out w wv (PF B w) by rw [hwv]; exact O4.out.drew)
      clear hwv
      have hilt : i < P1.ss.length := HIL.out
      have hib : i < J1.bs.length := by rw [Q7.out.bl]; exact hilt
      obtain ⟨sg, scap, esv, -, -, hc⟩ := Q7.out.at_ i hib
      have q5 : wv.cell? ⟨J1.g, 5, none⟩ = some (.slice (some ⟨sg, 0, none⟩) P1.ss.length scap) := by rw [← esv]; exact Q7.out.cells.2.2.2.2.2.1
      obtain ⟨n, hn⟩ : ∃ n, n = P1.ss.length := ⟨_, rfl⟩
      rw [← hn] at q5
      have hinI : (i : Int) < (n : Int) := by rw [hn]; omega
      have hin : i < n := by rw [hn]; exact hilt
      have n256 : n ≤ 256 := by rw [hn]; exact Q7.out.few
      have LAY := Lib.hid (Q7.out.lay i hilt hib (Sl.mk (id : Int) x st true true) (.inr ⟨by show (0 : Int) ≤ (id : Int); omega, by show (id : Int) < (P1.pages : Int); have := PGS.out; have := HID.out; omega⟩) ST.out
        (fun k hk hne e => absurd e (NO1.out _ (List.getElem_mem hk))))
      have NBS := Lib.hid (show J1.g ≠ J1.bs[i] from Q7.out.ne_slot (List.getElem_mem hib))
      obtain ⟨sold, hkb⟩ : ∃ sold : Sl, Bk wv (J1.bs[i]) 82 sold.cs := ⟨_, Q7.out.sl i hib hilt⟩
      have KB := Lib.hid hkb
      clear hkb
      have BGE := Lib.hid (Q7.out.bb _ (List.getElem_mem hib))
      have NSG := Lib.hid (show sg ≠ J1.bs[i] from by
        obtain ⟨-, -, c, hcc⟩ := owns_block Q7.out.row (k := sg) (by rw [esv]; rfl)
        exact Bk.ne_ hcc KB.out (by decide))
      obtain ⟨bi, hbi⟩ : ∃ bi, bi = J1.bs[i] := ⟨_, rfl⟩
      rw [← hbi] at LAY NBS KB hc BGE NSG
      have SF1 := Lib.hid (show wv.cell? ⟨J1.g, 5, none⟩ = some (.slice (some ⟨sg, 0, none⟩) n scap) ∧ wv.cell? ⟨sg, i, none⟩ = some (.pointer (some ⟨bi, 0, none⟩)) ∧ Bk wv G6 41 x.cs from ⟨q5, hc, K7.out⟩)
      have NKB := Lib.hid (show G6 ≠ bi from Bk.ne_ K7.out KB.out (by decide))
      have SF2 := Lib.hid (show (wv.setRow bi (Sl.mk (id : Int) x st true true).cs).cell? ⟨J1.g, 5, none⟩ = some (.slice (some ⟨sg, 0, none⟩) n scap) ∧ (wv.setRow bi (Sl.mk (id : Int) x st true true).cs).cell? ⟨sg, i, none⟩ = some (.pointer (some ⟨bi, 0, none⟩)) ∧ Bk (wv.setRow bi (Sl.mk (id : Int) x st true true).cs) G6 41 x.cs from
        ⟨by rw [setRow_cell _ _ _ _ NBS.out]; exact q5, by rw [setRow_cell _ _ _ _ NSG.out]; exact hc, row_far K7.out NKB.out⟩)
      have O8 := Lib.hid (pf_then O7.out (pf_grown (prow_only wv bi (Sl.mk (id : Int) x st true true).cs) KB.out (.inr (.inl rfl)) BGE.out))
      have W8 := Lib.hid (show Wl (wv.setRow bi (Sl.mk (id : Int) x st true true).cs) B ⟨I.g, I.d.with p', I.dv, I.pv⟩ L1 S1 from (show Wl wv B ⟨I.g, I.d.with p', I.dv, I.pv⟩ L1 S1 by rw [← HWV.out]; exact W4.out.kept (Below.refl _ _).drew).one (prow_only wv bi (Sl.mk (id : Int) x st true true).cs) KB.out (.inr (.inl rfl)))
      clear hc q5 hib hn hilt hbi esv
      go_upto_region 9 with fail
      go_wp2_with fail
      refine wp_region_held (S := fun w' => w'.cell? ⟨J1.g, 5, none⟩ = some (.slice (some ⟨sg, 0, none⟩) n scap) ∧ w'.cell? ⟨sg, i, none⟩ = some (.pointer (some ⟨bi, 0, none⟩)) ∧ Bk w' G6 41 x.cs) (by kernel_rfl) ?_
      show wpAnyH _ _ _ _ _ _ _ _ w4.drew
      rw [HWV.out]
      refine pk_take (fuel := 12) (i := 0) 37 rfl rfl (by kernel_rfl) (by kernel_rfl) (by kernel_rfl) (fun _ _ _ h => h) (pk_move _ rfl (by kernel_rfl)) SF1.out ?_
      simp only [Act.put, Act.eval, List.setIfInBounds_toArray, List.set_cons_succ, List.set_cons_zero]
      refine pk_take (fuel := 11) (i := 1) (v := .pointer (some ⟨J1.g, 0, none⟩)) 38 rfl rfl (by kernel_rfl) (by kernel_rfl) (by kernel_rfl) (fun _ _ _ h => h) (by refine .inl ⟨by kernel_rfl, fun wx hx => ?_⟩; obtain ⟨q5, qj, -⟩ := hx; unfold execOp; go_simp) SF1.out ?_
      simp only [Act.put, Act.eval, List.setIfInBounds_toArray, List.set_cons_succ, List.set_cons_zero]
      refine pk_take (fuel := 10) (i := 2) (v := .pointer (some ⟨J1.g, 5, none⟩)) 39 rfl rfl (by kernel_rfl) (by kernel_rfl) (by kernel_rfl) (fun _ _ _ h => h) (by refine .inl ⟨by kernel_rfl, fun wx hx => ?_⟩; obtain ⟨q5, qj, -⟩ := hx; unfold execOp; go_simp) SF1.out ?_
      simp only [Act.put, Act.eval, List.setIfInBounds_toArray, List.set_cons_succ, List.set_cons_zero]
      refine pk_take (fuel := 9) (i := 3) (v := .slice (some ⟨sg, 0, none⟩) n scap) 40 rfl rfl (by kernel_rfl) (by kernel_rfl) (by kernel_rfl) (fun _ _ _ h => h) (by refine .inl ⟨by kernel_rfl, fun wx hx => ?_⟩; obtain ⟨q5, qj, -⟩ := hx; unfold execOp; go_simp) SF1.out ?_
      simp only [Act.put, Act.eval, List.setIfInBounds_toArray, List.set_cons_succ, List.set_cons_zero]
      refine pk_take (fuel := 8) (i := 4) 41 rfl rfl (by kernel_rfl) (by kernel_rfl) (by kernel_rfl) (fun _ _ _ h => h) (pk_move _ rfl (by kernel_rfl)) SF1.out ?_
      simp only [Act.put, Act.eval, List.setIfInBounds_toArray, List.set_cons_succ, List.set_cons_zero]
      refine pk_take (fuel := 7) (i := 5) (v := .pointer (some ⟨sg, i, none⟩)) 42 rfl rfl (by kernel_rfl) (by kernel_rfl) (by kernel_rfl) (fun _ _ _ h => h) (by refine .inl ⟨by kernel_rfl, fun wx hx => ?_⟩; obtain ⟨q5, qj, -⟩ := hx; unfold execOp; go_simp) SF1.out ?_
      simp only [Act.put, Act.eval, List.setIfInBounds_toArray, List.set_cons_succ, List.set_cons_zero]
      refine pk_take (fuel := 6) (i := 6) (v := .pointer (some ⟨bi, 0, none⟩)) 43 rfl rfl (by kernel_rfl) (by kernel_rfl) (by kernel_rfl) (fun _ _ _ h => h) (by refine .inl ⟨by kernel_rfl, fun wx hx => ?_⟩; obtain ⟨q5, qj, -⟩ := hx; unfold execOp; go_simp) SF1.out ?_
      simp only [Act.put, Act.eval, List.setIfInBounds_toArray, List.set_cons_succ, List.set_cons_zero]
      refine pk_take (fuel := 5) (i := 7) 44 rfl rfl (by kernel_rfl) (by kernel_rfl) (by kernel_rfl) (fun _ _ _ h => h) (pk_move _ rfl (by kernel_rfl)) SF1.out ?_
      simp only [Act.put, Act.eval, List.setIfInBounds_toArray, List.set_cons_succ, List.set_cons_zero]
      refine pk_take (fuel := 4) (i := 8) (v := .agg x.cs) 45 rfl rfl (by kernel_rfl) (by kernel_rfl) (by kernel_rfl) (fun _ _ _ h => h) (pk_page _ rfl (by kernel_rfl) G6 x rfl (fun w h => h.2.2)) SF1.out ?_
      simp only [Act.put, Act.eval, List.setIfInBounds_toArray, List.set_cons_succ, List.set_cons_zero]
      refine pk_take (fuel := 3) (i := 9) 46 rfl rfl (by kernel_rfl) (by kernel_rfl) (by kernel_rfl) (fun _ _ _ h => h) (pk_move _ rfl (by kernel_rfl)) SF1.out ?_
      simp only [Act.put, Act.eval, List.setIfInBounds_toArray, List.set_cons_succ, List.set_cons_zero]
      refine pk_take (fuel := 2) (i := 10) (v := .agg (Sl.mk (id : Int) x st true true).cs) 47 rfl rfl (by kernel_rfl) (by kernel_rfl) (by kernel_rfl) (fun _ _ _ h => h) (by refine .inl ⟨by kernel_rfl, fun wx hx => ?_⟩; unfold execOp; kernel_rfl) SF1.out ?_
      simp only [Act.put, Act.eval, List.setIfInBounds_toArray, List.set_cons_succ, List.set_cons_zero]
      refine pk_take (fuel := 1) (i := 11) (v := .pointer (some ⟨bi, 0, none⟩)) 48 rfl rfl (by kernel_rfl) (by kernel_rfl) (by kernel_rfl) (fun _ _ _ h => h) (by refine .inl ⟨by kernel_rfl, fun wx hx => ?_⟩; obtain ⟨q5, qj, -⟩ := hx; unfold execOp; go_simp) SF1.out ?_
      simp only [Act.put, Act.eval, List.setIfInBounds_toArray, List.set_cons_succ, List.set_cons_zero]
      refine pk_ready (fuel := 0) 12 (by kernel_rfl) ?_
      refine pk_store rfl _ _ rfl rfl (by kernel_rfl) bi (Sl.mk (id : Int) x st true true) sold rfl rfl KB.out ⟨SF2.out, ?_⟩
      refine wpAnyH_done (by kernel_rfl) ?_ _
      (try simp only [Act.put, Act.eval, List.setIfInBounds_toArray, List.set_cons_succ, List.set_cons_zero])
      generalize wv.setRow bi (Sl.mk (id : Int) x st true true).cs = w8 at *
      clear SF1 SF2 KB
      go_wp2
      go_ret
      exact ⟨0, p', J1, _, L1, S1, rfl, W8.out, LAY.out, EG.out, EDP.out, ELP.out, .inr ⟨NO.out, P1, i, RR.out, HIL.out, by rw [if_pos rfl]⟩, O8.out⟩
    · have hne : (er != 0) = true := by simp [he]
      have hne' : (er == 0) = false := by simp [he]
      have HE := Lib.hid he
      clear he
      go_wp2
      go_ret
      exact ⟨er, p', J1, P1, L1, S1, rfl, W4.out, Q4.out, EG.out, EDP.out, ELP.out, .inr ⟨NO.out, P1, i, RR.out, HIL.out, by rw [if_neg HE.out]⟩, O4.out⟩
  · rw [hf]
    have HIL := Lib.hid hj; have HJID := Lib.hid hjid
    have PGS := Lib.hid (show P.pages = P.pages from rfl)
    have ONE := Lib.hid (show ∀ k (hk : k < P.ss.length), k ≠ i → (P.ss[k]).id = (id : Int) → (id : Int) = -1 from fun k hk hne e => by
      have := Q3.out.ok.one k i hk hj hne (by rw [e, hjid])
      rw [e] at this; exact this)
    have hineg : ¬ (i : Int) < 0 := by omega
    have hinegd : decide ((i : Int) < 0) = false := decide_eq_false hineg
    clear hf hjid
    obtain ⟨wv, hwv⟩ : ∃ wv, wv = w3.drew := ⟨_, rfl⟩
    have HWV := Lib.hid hwv.symm
    have Q7 := Lib.hid (show Pq wv B J P by rw [hwv]; exact Q3.out.drew)
    have K7 := Lib.hid (show Bk wv G6 41 x.cs by rw [hwv]; exact K3.out.drew)
    have O7 := Lib.hid (show Out w wv (PF B w) by rw [hwv]; exact O3.out.drew)
    clear hwv
    have hilt : i < P.ss.length := HIL.out
    have hib : i < J.bs.length := by rw [Q7.out.bl]; exact hilt
    obtain ⟨sg, scap, esv, -, -, hc⟩ := Q7.out.at_ i hib
    have q5 : wv.cell? ⟨J.g, 5, none⟩ = some (.slice (some ⟨sg, 0, none⟩) P.ss.length scap) := by rw [← esv]; exact Q7.out.cells.2.2.2.2.2.1
    obtain ⟨n, hn⟩ : ∃ n, n = P.ss.length := ⟨_, rfl⟩
    rw [← hn] at q5
    have hinI : (i : Int) < (n : Int) := by rw [hn]; omega
    have hin : i < n := by rw [hn]; exact hilt
    have n256 : n ≤ 256 := by rw [hn]; exact Q7.out.few
    have LAY := Lib.hid (Q7.out.lay i hilt hib (Sl.mk (id : Int) x st true true) (.inr ⟨by show (0 : Int) ≤ (id : Int); omega, by show (id : Int) < (P.pages : Int); have := PGS.out; have := HID.out; omega⟩) ST.out
      (ONE.out))
    have NBS := Lib.hid (show J.g ≠ J.bs[i] from Q7.out.ne_slot (List.getElem_mem hib))
    obtain ⟨sold, hkb⟩ : ∃ sold : Sl, Bk wv (J.bs[i]) 82 sold.cs := ⟨_, Q7.out.sl i hib hilt⟩
    have KB := Lib.hid hkb
    clear hkb
    have BGE := Lib.hid (Q7.out.bb _ (List.getElem_mem hib))
    have NSG := Lib.hid (show sg ≠ J.bs[i] from by
      obtain ⟨-, -, c, hcc⟩ := owns_block Q7.out.row (k := sg) (by rw [esv]; rfl)
      exact Bk.ne_ hcc KB.out (by decide))
    obtain ⟨bi, hbi⟩ : ∃ bi, bi = J.bs[i] := ⟨_, rfl⟩
    rw [← hbi] at LAY NBS KB hc BGE NSG
    have SF1 := Lib.hid (show wv.cell? ⟨J.g, 5, none⟩ = some (.slice (some ⟨sg, 0, none⟩) n scap) ∧ wv.cell? ⟨sg, i, none⟩ = some (.pointer (some ⟨bi, 0, none⟩)) ∧ Bk wv G6 41 x.cs from ⟨q5, hc, K7.out⟩)
    have NKB := Lib.hid (show G6 ≠ bi from Bk.ne_ K7.out KB.out (by decide))
    have SF2 := Lib.hid (show (wv.setRow bi (Sl.mk (id : Int) x st true true).cs).cell? ⟨J.g, 5, none⟩ = some (.slice (some ⟨sg, 0, none⟩) n scap) ∧ (wv.setRow bi (Sl.mk (id : Int) x st true true).cs).cell? ⟨sg, i, none⟩ = some (.pointer (some ⟨bi, 0, none⟩)) ∧ Bk (wv.setRow bi (Sl.mk (id : Int) x st true true).cs) G6 41 x.cs from
      ⟨by rw [setRow_cell _ _ _ _ NBS.out]; exact q5, by rw [setRow_cell _ _ _ _ NSG.out]; exact hc, row_far K7.out NKB.out⟩)
    have O8 := Lib.hid (pf_then O7.out (pf_grown (prow_only wv bi (Sl.mk (id : Int) x st true true).cs) KB.out (.inr (.inl rfl)) BGE.out))
    have W8 := Lib.hid (show Wl (wv.setRow bi (Sl.mk (id : Int) x st true true).cs) B I L S from (show Wl wv B I L S by rw [← HWV.out]; exact W3.out.kept (Below.refl _ _).drew).one (prow_only wv bi (Sl.mk (id : Int) x st true true).cs) KB.out (.inr (.inl rfl)))
    clear hc q5 hib hn hilt hbi esv
    go_upto_region 9 with fail
    go_wp2_with fail
    refine wp_region_held (S := fun w' => w'.cell? ⟨J.g, 5, none⟩ = some (.slice (some ⟨sg, 0, none⟩) n scap) ∧ w'.cell? ⟨sg, i, none⟩ = some (.pointer (some ⟨bi, 0, none⟩)) ∧ Bk w' G6 41 x.cs) (by kernel_rfl) ?_
    show wpAnyH _ _ _ _ _ _ _ _ w3.drew
    rw [HWV.out]
    refine pk_take (fuel := 12) (i := 0) 37 rfl rfl (by kernel_rfl) (by kernel_rfl) (by kernel_rfl) (fun _ _ _ h => h) (pk_move _ rfl (by kernel_rfl)) SF1.out ?_
    simp only [Act.put, Act.eval, List.setIfInBounds_toArray, List.set_cons_succ, List.set_cons_zero]
    refine pk_take (fuel := 11) (i := 1) (v := .pointer (some ⟨J.g, 0, none⟩)) 38 rfl rfl (by kernel_rfl) (by kernel_rfl) (by kernel_rfl) (fun _ _ _ h => h) (by refine .inl ⟨by kernel_rfl, fun wx hx => ?_⟩; obtain ⟨q5, qj, -⟩ := hx; unfold execOp; go_simp) SF1.out ?_
    simp only [Act.put, Act.eval, List.setIfInBounds_toArray, List.set_cons_succ, List.set_cons_zero]
    refine pk_take (fuel := 10) (i := 2) (v := .pointer (some ⟨J.g, 5, none⟩)) 39 rfl rfl (by kernel_rfl) (by kernel_rfl) (by kernel_rfl) (fun _ _ _ h => h) (by refine .inl ⟨by kernel_rfl, fun wx hx => ?_⟩; obtain ⟨q5, qj, -⟩ := hx; unfold execOp; go_simp) SF1.out ?_
    simp only [Act.put, Act.eval, List.setIfInBounds_toArray, List.set_cons_succ, List.set_cons_zero]
    refine pk_take (fuel := 9) (i := 3) (v := .slice (some ⟨sg, 0, none⟩) n scap) 40 rfl rfl (by kernel_rfl) (by kernel_rfl) (by kernel_rfl) (fun _ _ _ h => h) (by refine .inl ⟨by kernel_rfl, fun wx hx => ?_⟩; obtain ⟨q5, qj, -⟩ := hx; unfold execOp; go_simp) SF1.out ?_
    simp only [Act.put, Act.eval, List.setIfInBounds_toArray, List.set_cons_succ, List.set_cons_zero]
    refine pk_take (fuel := 8) (i := 4) 41 rfl rfl (by kernel_rfl) (by kernel_rfl) (by kernel_rfl) (fun _ _ _ h => h) (pk_move _ rfl (by kernel_rfl)) SF1.out ?_
    simp only [Act.put, Act.eval, List.setIfInBounds_toArray, List.set_cons_succ, List.set_cons_zero]
    refine pk_take (fuel := 7) (i := 5) (v := .pointer (some ⟨sg, i, none⟩)) 42 rfl rfl (by kernel_rfl) (by kernel_rfl) (by kernel_rfl) (fun _ _ _ h => h) (by refine .inl ⟨by kernel_rfl, fun wx hx => ?_⟩; obtain ⟨q5, qj, -⟩ := hx; unfold execOp; go_simp) SF1.out ?_
    simp only [Act.put, Act.eval, List.setIfInBounds_toArray, List.set_cons_succ, List.set_cons_zero]
    refine pk_take (fuel := 6) (i := 6) (v := .pointer (some ⟨bi, 0, none⟩)) 43 rfl rfl (by kernel_rfl) (by kernel_rfl) (by kernel_rfl) (fun _ _ _ h => h) (by refine .inl ⟨by kernel_rfl, fun wx hx => ?_⟩; obtain ⟨q5, qj, -⟩ := hx; unfold execOp; go_simp) SF1.out ?_
    simp only [Act.put, Act.eval, List.setIfInBounds_toArray, List.set_cons_succ, List.set_cons_zero]
    refine pk_take (fuel := 5) (i := 7) 44 rfl rfl (by kernel_rfl) (by kernel_rfl) (by kernel_rfl) (fun _ _ _ h => h) (pk_move _ rfl (by kernel_rfl)) SF1.out ?_
    simp only [Act.put, Act.eval, List.setIfInBounds_toArray, List.set_cons_succ, List.set_cons_zero]
    refine pk_take (fuel := 4) (i := 8) (v := .agg x.cs) 45 rfl rfl (by kernel_rfl) (by kernel_rfl) (by kernel_rfl) (fun _ _ _ h => h) (pk_page _ rfl (by kernel_rfl) G6 x rfl (fun w h => h.2.2)) SF1.out ?_
    simp only [Act.put, Act.eval, List.setIfInBounds_toArray, List.set_cons_succ, List.set_cons_zero]
    refine pk_take (fuel := 3) (i := 9) 46 rfl rfl (by kernel_rfl) (by kernel_rfl) (by kernel_rfl) (fun _ _ _ h => h) (pk_move _ rfl (by kernel_rfl)) SF1.out ?_
    simp only [Act.put, Act.eval, List.setIfInBounds_toArray, List.set_cons_succ, List.set_cons_zero]
    refine pk_take (fuel := 2) (i := 10) (v := .agg (Sl.mk (id : Int) x st true true).cs) 47 rfl rfl (by kernel_rfl) (by kernel_rfl) (by kernel_rfl) (fun _ _ _ h => h) (by refine .inl ⟨by kernel_rfl, fun wx hx => ?_⟩; unfold execOp; kernel_rfl) SF1.out ?_
    simp only [Act.put, Act.eval, List.setIfInBounds_toArray, List.set_cons_succ, List.set_cons_zero]
    refine pk_take (fuel := 1) (i := 11) (v := .pointer (some ⟨bi, 0, none⟩)) 48 rfl rfl (by kernel_rfl) (by kernel_rfl) (by kernel_rfl) (fun _ _ _ h => h) (by refine .inl ⟨by kernel_rfl, fun wx hx => ?_⟩; obtain ⟨q5, qj, -⟩ := hx; unfold execOp; go_simp) SF1.out ?_
    simp only [Act.put, Act.eval, List.setIfInBounds_toArray, List.set_cons_succ, List.set_cons_zero]
    refine pk_ready (fuel := 0) 12 (by kernel_rfl) ?_
    refine pk_store rfl _ _ rfl rfl (by kernel_rfl) bi (Sl.mk (id : Int) x st true true) sold rfl rfl KB.out ⟨SF2.out, ?_⟩
    refine wpAnyH_done (by kernel_rfl) ?_ _
    (try simp only [Act.put, Act.eval, List.setIfInBounds_toArray, List.set_cons_succ, List.set_cons_zero])
    generalize wv.setRow bi (Sl.mk (id : Int) x st true true).cs = w8 at *
    clear SF1 SF2 KB
    go_wp2
    go_ret
    exact ⟨0, I.d.p, J, _, L, S, rfl, W8.out, LAY.out, rfl, rfl, rfl, .inl ⟨i, HIL.out, HJID.out, rfl, rfl, rfl, rfl⟩, O8.out⟩
end Go.Proofs.YtgafajbdmegfgaaGreat
