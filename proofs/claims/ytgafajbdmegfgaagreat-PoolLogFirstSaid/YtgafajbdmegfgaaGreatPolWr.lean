/- Layer 12: a slot's page is written. -/
import Derived.Test.YtgafajbdmegfgaaGreatPolSpare
import Derived.Test.YtgafajbdmegfgaaGreatFrameWalk
import Derived.Deep.RegionHeld3
import Derived.Deep.MidRow
set_option linter.unusedVariables false
set_option linter.unusedSimpArgs false
namespace Go.Proofs.YtgafajbdmegfgaaGreat
open Go.RowKit

theorem Wl.df_ty {w : World} {B : Nat} {I : Wd} {L : Lg} {S : Dsk} (h : Wl w B I L S) {k : Nat} (hk : I.df B w k) : B ≤ k ∧ ∃ t cs, Bk w k t cs ∧ (t = 71 ∨ t = 78 ∨ t = 9 ∨ t = 93) := by
  rcases hk with rfl | rfl | rfl | rfl | ⟨h1, c, hc⟩
  · exact ⟨h.bg, _, _, h.box, .inl rfl⟩
  · exact ⟨h.dsk.bg, _, _, h.dsk.box, .inr (.inl rfl)⟩
  · obtain ⟨c, hc, _⟩ := h.dsk.firm; exact ⟨h.dsk.bf, _, _, hc, .inr (.inr (.inl rfl))⟩
  · obtain ⟨c, hc, _⟩ := h.dsk.now; exact ⟨h.dsk.bn, _, _, hc, .inr (.inr (.inl rfl))⟩
  · exact ⟨h1, _, _, hc, .inr (.inr (.inr rfl))⟩
theorem Wl.df_out {w w' : World} {B : Nat} {I : Wd} {L : Lg} {S : Dsk} (h : Wl w B I L S) (ho : Out w w' (I.df B w)) : Out w w' (PF B w) :=
  ho.mono fun k _ hk => by
    obtain ⟨h1, t, cs, hc, ht⟩ := h.df_ty hk
    refine ⟨h1, t, cs, hc, ?_⟩
    rcases ht with rfl | rfl | rfl | rfl <;> (unfold plT; decide)
theorem Pq.df {w w' : World} {B B' : Nat} {I : Wd} {L : Lg} {S : Dsk} {J : Pd} {P : Po} (hp : Pq w B' J P) (h : Wl w B I L S) (ho : Out w w' (I.df B w)) : Pq w' B' J P :=
  hp.out ho fun k _ hk => by
    obtain ⟨h1, t, cs, hc, ht⟩ := h.df_ty hk
    refine ⟨t, cs, hc, ?_⟩
    rcases ht with rfl | rfl | rfl | rfl <;> decide
section
variable {ops : Array Oper} {rest : List Oper} {o : Oper} {a : Act} {w : World} {Q : Exit → Act → World → Prop}
theorem sl_page {w : World} {b : Nat} {s : Sl} (h : Bk w b 82 s.cs) : w.rangeAt b 1 s.p.cs.toList := fun i v hv => by
  rw [h.cell]
  have hi : i < 16 := (List.getElem?_eq_some_iff.1 hv).1
  have : s.cs[1 + i]? = s.p.cs.toList[i]? := by
    rw [← Array.getElem?_toList]
    show (Value.int .i64 s.id :: (s.p.cs.toList ++ [.int .i64 (s.st : Int), .bool s.di, .bool s.us]))[1 + i]? = _
    rw [Nat.add_comm, List.getElem?_cons_succ, List.getElem?_append_left (by show i < 16; exact hi)]
  rw [this]; exact hv
theorem load_slp (hgd : o.guard = none) (x : Operand) (ho : o.op = .load 41 x) (b : Nat) (s : Sl) (hx : a.eval x = .pointer (some ⟨b, 1, none⟩)) (hb : Bk w b 82 s.cs)
    (h : wpList Tryz.prog ops Q rest (a.put o.dst (.agg s.p.cs)) w) : wpList Tryz.prog ops Q (o :: rest) a w :=
  wpList_load_mid hgd 41 x ho b 1 hx s.p.cs.toList _ (sl_page hb) Tryz.underlying41 rfl (by rw [show s.p.cs.toList.length = 16 from rfl]; kernel_rfl) (by simpa using h)
end
theorem Pq.clean {w : World} {B : Nat} {J : Pd} {P : Po} (h : Pq w B J P) (j : Nat) (hj : j < P.ss.length) (hb : j < J.bs.length) : Pq (w.setCell ⟨J.bs[j], 18, none⟩ (.bool false)) B J { P with ss := P.ss.set j { P.ss[j] with di := false } } := by
  have a := h.ok.ids _ (List.getElem_mem hj)
  have b := h.ok.stb _ (List.getElem_mem hj)
  exact h.put j hj hb _ (only_set ⟨rfl, rfl, rfl, Nat.le_refl _, fun _ _ _ => rfl⟩ 18 _) ((h.sl j hb hj).set 18 (.bool false))
    (h.ok.set hj _ a b (fun i hi hne e => by
      have := h.ok.one i j hi hj hne e
      exact e ▸ this))
theorem lg_wr_pend (L : Lg) : ∀ (m k : Nat) (S : Dsk), (L.wr m k S).1.pend.length ≤ S.pend.length + m
  | 0, _, S => Nat.le_refl _
  | m + 1, k, S => by
    unfold Lg.wr
    have h1 := write_pend S ((L.first + k % L.n : Nat) : Int) (L.sec k)
    split
    · have := lg_wr_pend L m (k + 1) (S.write ((L.first + k % L.n : Nat) : Int) (L.sec k)).1
      omega
    · omega
theorem barrier_pend (S : Dsk) : S.barrier.1.pend.length ≤ S.pend.length := by
  unfold Dsk.barrier
  split
  · exact Nat.le_refl _
  split
  · exact Nat.le_refl _
  · exact Nat.zero_le _
theorem rounds_le {L : Lg} (h : L.ok) : L.rounds ≤ 4098 := by
  have a1 := h.sf; have a2 := h.fe; have a3 := h.rm; have a4 := h.n2
  have := flr_le L.start
  rw [flr_mul] at a3
  have : L.start / 54 ≤ L.firm / 54 := Nat.div_le_div_right a1
  unfold Lg.rounds
  omega
theorem flush_pend {L : Lg} (h : L.ok) (S : Dsk) (at_ : Int) : (L.flush S at_).2.1.pend.length ≤ S.pend.length + 4098 := by
  have h1 := lg_wr_pend L L.rounds (L.firm / 54) S
  have h2 := barrier_pend (L.wr L.rounds (L.firm / 54) S).1
  have h3 := rounds_le h
  unfold Lg.flush
  split
  · exact Nat.le_add_right _ _
  split
  · show (L.wr L.rounds (L.firm / 54) S).1.pend.length ≤ _
    omega
  split
  · show (L.wr L.rounds (L.firm / 54) S).1.barrier.1.pend.length ≤ _
    omega
  · show (L.wr L.rounds (L.firm / 54) S).1.barrier.1.pend.length ≤ _
    omega
def WrPost (w : World) (B : Nat) (I : Wd) (J : Pd) (P : Po) (j : Nat) (s : Sl) (r : Lg × Dsk × Int) (e : Ending) (w' : World) : Prop :=
  e = .returned (.int .i64 r.2.2) ∧ ∃ p', Wl w' B ⟨I.g, I.d.with p', I.dv, I.pv⟩ r.1 r.2.1 ∧ Pq w' B J (if r.2.2 = 0 then { P with ss := P.ss.set j { s with di := false } } else P) ∧ Out w w' (PF B w)
set_option maxRecDepth 100000 in
set_option maxHeartbeats 8000000 in
theorem pwrite_any {w : World} {B : Nat} {I : Wd} {J : Pd} {P : Po} {L : Lg} {S : Dsk} (hW : Wl w B I L S) (hP : Pq w B J P) (ed : J.dp = I.d.ptr) (el : J.lp = I.ptr)
    (j : Nat) (hj : j < P.ss.length) (hjb : j < J.bs.length) (id : Nat) (hid : (P.ss[j]).id = (id : Int)) (hpg : id < P.pages) (hpok : (P.ss[j]).p.ok) (hB : B ≤ w.heap.size) (hp : S.pend.length ≤ 2199023255552) :
    Calls Tryz.prog 34 #[J.ptr, .pointer (some ⟨J.bs[j], 0, none⟩)] w (WrPost w B I J P j (P.ss[j]) ((P.ss[j]).flush P.base L S)) := by
  obtain ⟨gI, d, dv, pv⟩ := I
  obtain ⟨g, sv, bs, dp, lp⟩ := J
  dsimp only at ed el
  subst ed
  subst el
  have KS := Lib.hid (hP.sl j hjb hj)
  have okb := hP.ok.b0
  have hid1 : id < 1024 := Nat.lt_of_lt_of_le hpg hP.ok.p2
  have hst := hP.ok.stb _ (List.getElem_mem hj)
  have CLE := Lib.hid (fun w' (h : Pq w' B ⟨g, sv, bs, .pointer (some ⟨d.g, 0, none⟩), .pointer (some ⟨gI, 0, none⟩)⟩ P) => h.clean j hj hjb)
  have SLC := Lib.hid (fun w' (h : Pq w' B ⟨g, sv, bs, .pointer (some ⟨d.g, 0, none⟩), .pointer (some ⟨gI, 0, none⟩)⟩ P) => h.sl j hjb hj)
  have BGE := Lib.hid (hP.bb _ (List.getElem_mem hjb))
  dsimp only at KS CLE SLC BGE
  dsimp only
  obtain ⟨b, hb⟩ : ∃ b, b = bs[j] := ⟨_, rfl⟩
  obtain ⟨s, hs⟩ : ∃ s, s = P.ss[j] := ⟨_, rfl⟩
  rw [← hb] at CLE SLC KS BGE ⊢
  rw [← hs] at CLE SLC KS hid hpok hst ⊢
  have W := Lib.hid hW; have PQ := Lib.hid hP; have HB := Lib.hid hB
  have EID := Lib.hid hid; have POK := Lib.hid hpok
  have LF := Lib.hid (fun w' (hb : Below w.heap.size w w') => show Calls Tryz.prog 56 #[.pointer (some ⟨gI, 0, none⟩), .int .i64 (s.st : Int)] w' _ from flush_any (hW.kept hb) (s.st : Int) (Nat.le_trans hB hb.size) (by omega))
  obtain ⟨y0, y1, -, -, -, -, -⟩ := hP.cells
  dsimp only [Wd.ptr, Ids.ptr] at y0 y1
  obtain ⟨s0, s17, s18, -⟩ := sl_cells KS.out
  rw [hid] at s0
  clear hW hP hj hjb hb hs hid hpok hB hpg
  unfold Pd.ptr
  dsimp only
  go_enter Tryz.func34, Tryz.ntmps34
  go_wp2_with fail
  go_region_held3 (fun w' => w'.cell? ⟨g, 1, none⟩ = some (.pointer (some ⟨gI, 0, none⟩)) ∧ w'.cell? ⟨b, 17, none⟩ = some (.int .i64 (s.st : Int))) (first | exact kw | exact ⟨y1, s17⟩)
    (first | (go_simp; go_at_call 56; refine (LF.out _ (Below.refl _ _).drew).mono ?_; rintro e wa ⟨rfl, p1, hw1, ho1⟩; have hq1 := PQ.out.drew.df (W.out.kept (Below.refl _ _).drew) ho1; have kw : wa.cell? ⟨g, 1, none⟩ = some (.pointer (some ⟨gI, 0, none⟩)) ∧ wa.cell? ⟨b, 17, none⟩ = some (.int .i64 (s.st : Int)) := ⟨hq1.cells.2.1, (sl_cells (SLC.out _ hq1)).2.1⟩))
  have WD := Lib.hid (W.out.kept (Below.refl w.heap.size w).drew)
  have W1 := Lib.hid hw1; have Q1 := Lib.hid hq1
  have O1 := Lib.hid (show Out w wa (PF B w) from pf_then (.of_below (Below.refl _ _).drew _) (WD.out.df_out ho1))
  have HB1 := Lib.hid (show B ≤ wa.heap.size from Nat.le_trans HB.out O1.out.size)
  have PE1 := Lib.hid (flush_pend W.out.ok S (s.st : Int))
  have FL := Lib.hid (show s.flush P.base L S = if (L.flush S (s.st : Int)).2.2 = 0 then ((L.flush S (s.st : Int)).1, s.wr P.base 4 0 (L.flush S (s.st : Int)).2.1) else L.flush S (s.st : Int) from rfl)
  clear ho1 hw1 hq1 kw WD y0 y1 s0 s17 s18
  generalize L.flush S (s.st : Int) = R at *
  obtain ⟨L1, S1, e1⟩ := R
  dsimp only at W1 PE1 FL ⊢
  by_cases he : e1 = 0
  · subst he
    have FL2 := Lib.hid (show s.flush P.base L S = (L1, s.wr P.base 4 0 S1) by rw [FL.out]; exact if_pos rfl)
    clear FL
    have K1 := Lib.hid (SLC.out _ Q1.out)
    have CE := Lib.hid (fun w' => show Calls Tryz.prog 57 #[.agg s.p.cs] w' (fun e w'' => e = .returned (.tuple #[.string s.p.bytes, .int .i64 0]) ∧ Below w'.heap.size w' w'') by
      have h := encode_any s.p w'
      rw [Pg.enc_ok POK.out, Pg.err_ok POK.out] at h
      exact h)
    have bsz := bytes_size s.p POK.out
    have CS := Lib.hid (fun w' => show Calls Tryz.prog 58 #[.string s.p.bytes, .int .u64 (s.st : Int)] w' _ from seal_good s.p.bytes s.st w' bsz (by omega))
    have wu : IntKind.u64.wrap (s.st : Int) = (s.st : Int) := by rw [IntKind.wrap_u64]; omega
    have SZC := Lib.hid (show ∀ k, k < 4 → (Fr.sec s.p.bytes (Oct.str s.st 8) k).size = 64 from fun k hk => Fr.sec_size bsz (Oct.str_size _ _) hk)
    have SEC := Lib.hid (show ∀ k, s.sec k = Fr.sec s.p.bytes (Oct.str s.st 8) k from fun k => rfl)
    generalize Fr.sec s.p.bytes (Oct.str s.st 8) = c at *
    obtain ⟨body, hbody⟩ : ∃ body, body = s.p.bytes := ⟨_, rfl⟩
    rw [← hbody] at CE CS
    clear bsz hbody
    unfold Fr.sv at CS
    as_aux_lemma =>
      go_wp2_with (refine load_slp rfl _ rfl b s rfl K1.out ?_)
      refine (CE.out _).mono ?_
      rintro e wb ⟨rfl, hb⟩
      have W2 := Lib.hid (W1.out.kept hb); have Q2 := Lib.hid (Q1.out.kept hb)
      have O2 := Lib.hid (pf_then O1.out (.of_below hb _))
      have HB2 := Lib.hid (Nat.le_trans HB1.out hb.size)
      clear hb CE W1 Q1 O1 HB1 K1
      have t17 : wb.cell? ⟨b, 17, none⟩ = some (.int .i64 (s.st : Int)) := (sl_cells (SLC.out _ Q2.out)).2.1
      as_aux_lemma =>
        go_wp2_with fail
        refine (CS.out _).mono ?_
        rintro e wc ⟨rfl, hb⟩
        have W3 := Lib.hid ((W2.out.kept hb).kept ((Below.refl wc.heap.size wc).alloc (Nat.le_refl _) (.cells #[.string (c 0), .string (c 1), .string (c 2), .string (c 3)] 95)))
        have Q3 := Lib.hid ((Q2.out.kept hb).alloc (.cells #[.string (c 0), .string (c 1), .string (c 2), .string (c 3)] 95))
        have O3 := Lib.hid ((pf_then O2.out (.of_below hb _)).alloc (.cells #[.string (c 0), .string (c 1), .string (c 2), .string (c 3)] 95))
        have HB3 := Lib.hid (show B ≤ (wc.alloc (.cells #[.string (c 0), .string (c 1), .string (c 2), .string (c 3)] 95)).heap.size from Nat.le_trans HB2.out (Nat.le_trans hb.size (by simp)))
        clear hb CS W2 Q2 O2 HB2 t17
        as_aux_lemma =>
          go_upto_region 11 with fail
          generalize wc.alloc (.cells #[.string (c 0), .string (c 1), .string (c 2), .string (c 3)] 95) = wd at *
          have IX := Lib.hid (fun k hk w' => run_index4 c k hk w')
          go_loopw [49] (fun i wr => ∃ (q : Nat) (p' : Value) (S' : Dsk), q ≤ 4 ∧ i = .int .i64 q ∧ Wl wr B ⟨gI, d.with p', dv, pv⟩ L1 S' ∧ Pq wr B ⟨g, sv, bs, .pointer (some ⟨d.g, 0, none⟩), .pointer (some ⟨gI, 0, none⟩)⟩ P ∧ s.wr P.base 4 0 S1 = s.wr P.base (4 - q) q S' ∧ S'.pend.length ≤ S1.pend.length + q ∧ Out w wr (PF B w)) (fun i _ => 4 - (intOf i).toNat)
          case atStart => exact ⟨0, p1, S1, Nat.zero_le _, rfl, W3.out, Q3.out, rfl, Nat.le_refl _, O3.out⟩
          case round =>
            obtain ⟨q, p', S', hq, rfl, hW, hQ, hwr, hpl, ho⟩ := hrel
            have W4 := Lib.hid hW; have Q4 := Lib.hid hQ; have WR := Lib.hid hwr; have PL := Lib.hid hpl; have O4 := Lib.hid ho
            clear hW hQ hwr hpl ho W3 Q3 O3
            by_cases hlt : q < 4
            · have HLT := Lib.hid hlt
              have ix := fun w => IX.out q hlt w
              obtain ⟨c0, -, c2, -⟩ := Q4.out.cells
              dsimp only at c0
              have ks := (sl_cells (SLC.out _ Q4.out)).1
              rw [EID.out] at ks
              have LS := Lib.hid (fun w' (hb : Below wr.heap.size wr w') => show Calls Tryz.prog 49 #[.pointer (some ⟨g, 0, none⟩), .int .i64 (id : Int)] w' _ from sector_at (Q4.out.kept hb) id hid1)
              have LW := Lib.hid (fun w' (hb : Below wr.heap.size wr w') => show Calls Tryz.prog 21 #[.pointer (some ⟨d.g, 0, none⟩), .int .i64 ((P.base : Int) + 4 * (id : Int) + (q : Int)), .string (c q)] w' _ from write_any (W4.out.kept hb).dsk ((P.base : Int) + 4 * (id : Int) + (q : Int)) (c q) (Nat.le_trans HB.out (Nat.le_trans O4.out.size hb.size)) (by have := PL.out; have := PE1.out; omega))
              have WS := Lib.hid (show s.wr P.base (4 - q) q S' = if (S'.write ((P.base : Int) + 4 * (id : Int) + (q : Int)) (c q)).2 = 0 then s.wr P.base (4 - (q + 1)) (q + 1) (S'.write ((P.base : Int) + 4 * (id : Int) + (q : Int)) (c q)).1 else S'.write ((P.base : Int) + 4 * (id : Int) + (q : Int)) (c q) from by
                obtain ⟨m, hm'⟩ : ∃ m, 4 - q = m + 1 := ⟨4 - q - 1, by omega⟩
                have e : ((P.base + 4 * s.id.toNat + q : Nat) : Int) = (P.base : Int) + 4 * (id : Int) + (q : Int) := by rw [EID.out]; omega
                rw [hm', show 4 - (q + 1) = m by omega, ← e, ← SEC.out]
                rfl)
              have WP := Lib.hid (write_pend S' ((P.base : Int) + 4 * (id : Int) + (q : Int)) (c q))
              have wsec : IntKind.i64.wrap ((P.base : Int) + 4 * (id : Int) + (q : Int)) = (P.base : Int) + 4 * (id : Int) + (q : Int) := by rw [IntKind.wrap_i64]; omega
              generalize c q = cq at *
              clear c2
              as_aux_lemma =>
                go_wp2_with fail
                go_region_held3 (fun w' => w'.cell? ⟨g, 0, none⟩ = some (.pointer (some ⟨d.g, 0, none⟩)) ∧ w'.cell? ⟨b, 0, none⟩ = some (.int .i64 (id : Int))) (first | exact kw | exact ka | exact ⟨c0, ks⟩)
                  (first
                    | (go_simp; go_at_call 49; refine (LS.out _ (Below.refl _ _).drew).mono ?_; rintro e wa ⟨rfl, rfl⟩; have ka : wr.drew.cell? ⟨g, 0, none⟩ = some (.pointer (some ⟨d.g, 0, none⟩)) ∧ wr.drew.cell? ⟨b, 0, none⟩ = some (.int .i64 (id : Int)) := ⟨c0, ks⟩)
                    | (go_simp; go_at_call 21; refine (LW.out _ (Below.refl _ _).drew).mono ?_; rintro e wf ⟨rfl, p2, hd2, ho2⟩; have hw2 := (W4.out.kept (Below.refl _ _).drew).disk hd2 ho2; have hq2 := (Q4.out.kept (Below.refl _ _).drew).df (W4.out.kept (Below.refl _ _).drew) (df_one (W4.out.kept (Below.refl _ _).drew).dsk ho2); have kw : wf.cell? ⟨g, 0, none⟩ = some (.pointer (some ⟨d.g, 0, none⟩)) ∧ wf.cell? ⟨b, 0, none⟩ = some (.int .i64 (id : Int)) := ⟨hq2.cells.1, by rw [← EID.out]; exact (sl_cells (SLC.out _ hq2)).1⟩))
                have W5 := Lib.hid hw2; have Q5 := Lib.hid hq2
                have O5 := Lib.hid (show Out w wf (PF B w) from pf_then O4.out (pf_then (.of_below (Below.refl _ _).drew _) ((W4.out.kept (Below.refl wr.heap.size wr).drew).df_out (df_one (W4.out.kept (Below.refl wr.heap.size wr).drew).dsk ho2))))
                clear hw2 hq2 hd2 ho2 kw W4 Q4 O4 LS LW c0 ks
                generalize S'.write ((P.base : Int) + 4 * (id : Int) + (q : Int)) cq = X at *
                obtain ⟨S2, e2⟩ := X
                dsimp only at WS W5 WP ⊢
                by_cases he : e2 = 0
                · subst he
                  rw [if_pos rfl] at WS
                  go_wp2
                  go_roundw
                  case rel => exact ⟨q + 1, p2, S2, by have := HLT.out; omega, by go_num, W5.out, Q5.out, by rw [WR.out, WS.out], by have := WP.out; have := PL.out; omega, O5.out⟩
                  case measure => have := HLT.out; simp [intOf]; omega
                · rw [if_neg he] at WS
                  have hne : (e2 != 0) = true := by simp [he]
                  have hne' : (e2 == 0) = false := by simp [he]
                  have HE := Lib.hid he
                  clear he
                  go_wp2
                  go_ret
                  have hr : s.flush P.base L S = (L1, S2, e2) := by rw [FL2.out, WR.out, WS.out]
                  rw [hr]
                  refine ⟨rfl, p2, W5.out, ?_, O5.out⟩
                  rw [if_neg HE.out]
                  exact Q5.out
            · obtain rfl : q = 4 := by omega
              have hr := Lib.hid (show s.flush P.base L S = (L1, S', 0) by rw [FL2.out, WR.out]; rfl)
              have K4 := Lib.hid (SLC.out _ Q4.out)
              have k18 := K4.out.cell 18
              have f18 := K4.out.fz 18
              clear hlt hq
              as_aux_lemma =>
                go_wp2
                go_ret
                rw [hr.out]
                refine ⟨rfl, p', ?_, ?_, ?_⟩
                · exact W4.out.one (only_set ⟨rfl, rfl, rfl, Nat.le_refl _, fun _ _ _ => rfl⟩ 18 _) K4.out (.inr (.inl rfl))
                · rw [if_pos rfl]
                  exact CLE.out _ Q4.out
                · exact pf_then O4.out (pf_grown (only_set ⟨rfl, rfl, rfl, Nat.le_refl _, fun _ _ _ => rfl⟩ 18 _) K4.out (.inr (.inl rfl)) BGE.out)
  · have FL2 := Lib.hid (show s.flush P.base L S = (L1, S1, e1) by rw [FL.out]; exact if_neg he)
    have hne : (e1 != 0) = true := by simp [he]
    have hne' : (e1 == 0) = false := by simp [he]
    have HE := Lib.hid he
    clear he FL
    go_wp2
    go_ret
    rw [FL2.out]
    refine ⟨rfl, p1, W1.out, ?_, O1.out⟩
    rw [if_neg HE.out]
    exact Q1.out
end Go.Proofs.YtgafajbdmegfgaaGreat
