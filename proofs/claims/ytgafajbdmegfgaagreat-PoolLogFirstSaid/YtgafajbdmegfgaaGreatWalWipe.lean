/- The walk of wipe. -/
import Derived.Test.YtgafajbdmegfgaaGreatWalFlush
import Derived.Deep.DeepCutAuto
import Derived.Deep.CutBlock
set_option linter.unusedVariables false
set_option linter.unusedSimpArgs false
namespace Go.Proofs.YtgafajbdmegfgaaGreat
open Go.RowKit

/-- The stream's sector that has its place in the ring's sector i. -/
def Lg.at_ (L : Lg) (i : Nat) : Nat := L.start / 54 + (i + L.n - L.start / 54 % L.n) % L.n
/-- What the ring's sector i should hold. -/
def Lg.want (L : Lg) (i : Nat) : ByteArray := if L.at_ i * 54 < L.fin then L.sec (L.at_ i) else Fr.zs 64
def Lg.wipeFrom (L : Lg) : Nat → Nat → Dsk → Dsk × Int
  | 0, _, S => S.barrier
  | m + 1, i, S => if S.now.getD (L.first + i) ⟨#[]⟩ = L.want i then L.wipeFrom m (i + 1) S else if (S.write ((L.first + i : Nat) : Int) (L.want i)).2 = 0 then L.wipeFrom m (i + 1) (S.write ((L.first + i : Nat) : Int) (L.want i)).1 else S.write ((L.first + i : Nat) : Int) (L.want i)
theorem write_up {S : Dsk} (h : S.down = false) (i : Int) (d : ByteArray) (h0 : (S.write i d).2 = 0) : (S.write i d).1.down = false ∧ (S.write i d).1.firm.length = S.firm.length := by
  unfold Dsk.write at h0 ⊢
  rw [if_neg (by rw [h]; simp)] at h0 ⊢
  split at h0
  · rename_i h1
    rw [if_pos h1]
    split at h0
    · cases h0
    · rename_i h2
      rw [if_neg h2]
      exact ⟨h, rfl⟩
  · cases h0
theorem want_size (L : Lg) (i : Nat) : (L.want i).size = 64 := by
  unfold Lg.want
  split
  · exact L.sec_size _
  · exact Fr.zs_size 64
theorem tmod_twice (a n : Int) (hn : 0 < n) : ((a.tmod n) + n).tmod n = a % n := by
  have h1 : a.tmod n = a - n * (a.tdiv n) := Int.tmod_def a n
  have h2 : -n < a.tmod n := by
    have := Int.lt_tmod_of_pos a hn
    omega
  rw [Int.tmod_eq_emod_of_nonneg (by omega), h1]
  have e : a - n * a.tdiv n + n = a + n * (1 - a.tdiv n) := by
    rw [Int.mul_sub, Int.mul_one]; omega
  rw [e, Int.add_mul_emod_self_left]
theorem at_int (L : Lg) (i : Nat) (hn : 0 < L.n) : ((L.at_ i : Nat) : Int) = ((L.start / 54 : Nat) : Int) + ((i : Int) - ((L.start / 54 : Nat) : Int)) % (L.n : Int) := by
  unfold Lg.at_
  generalize L.start / 54 = k
  have h1 : k % L.n < L.n := Nat.mod_lt _ hn
  have h2 : (((i + L.n - k % L.n) % L.n : Nat) : Int) = ((i : Int) - (k : Int)) % (L.n : Int) := by
    rw [Int.natCast_emod, Int.natCast_sub (by omega), Int.natCast_add, Int.natCast_emod]
    have e : (i : Int) + (L.n : Int) - (k : Int) % (L.n : Int) = ((i : Int) - (k : Int)) + (L.n : Int) * (1 + (k : Int) / (L.n : Int)) := by
      have := Int.emod_def (k : Int) (L.n : Int)
      rw [this, Int.mul_add, Int.mul_one]
      omega
    rw [e, Int.add_mul_emod_self_left]
  rw [Int.natCast_add, h2]
theorem at_ge (L : Lg) (i : Nat) : L.start / 54 ≤ L.at_ i := Nat.le_add_right _ _
theorem at_lt (L : Lg) (i : Nat) (hn : 0 < L.n) : L.at_ i < L.start / 54 + L.n := by
  have := Nat.mod_lt (i + L.n - L.start / 54 % L.n) hn
  unfold Lg.at_; omega

set_option maxRecDepth 100000 in
set_option maxHeartbeats 4000000 in
theorem wipe_any {w : World} {B : Nat} {I : Wd} {L : Lg} {S : Dsk} (h : Wl w B I L S) (hd : S.down = false) (hf : L.first + L.n ≤ S.firm.length) (hB : B ≤ w.heap.size) (hp : S.pend.length ≤ 4398046511104) :
    Calls Tryz.prog 38 #[I.ptr] w fun e w' => e = .returned (.int .i64 (L.wipeFrom L.n 0 S).2) ∧ ∃ p', Wl w' B ⟨I.g, I.d.with p', I.dv, I.pv⟩ L (L.wipeFrom L.n 0 S).1 ∧ Below B w w' ∧ Out w w' (I.df B w) := by
  have H := Lib.hid h; have HB := Lib.hid hB; have OK := Lib.hid h.ok; have HD := Lib.hid hd; have HF := Lib.hid hf; have HP := Lib.hid hp
  have n1 := h.ok.n1; have n2 := h.ok.n2
  have hst : L.start ≤ 1152921504606846976 := by have := h.ok.sf; have := h.ok.fe; have := h.ok.big; omega
  obtain ⟨c0, c1, c2, c3, c4, c5, c6, c7⟩ := h.cells
  have et : (L.start : Int).tdiv 54 = ((L.start / 54 : Nat) : Int) := by rw [Int.tdiv_eq_ediv_of_nonneg (by omega)]; simp
  have hk0 : L.start / 54 ≤ 1152921504606846976 := by omega
  have AI := Lib.hid (fun i => at_int L i (by omega)); have AG := Lib.hid (at_ge L); have AL := Lib.hid (fun i => at_lt L i (by omega))
  have WS := Lib.hid (want_size L)
  have WD := Lib.hid (fun i => show L.want i = if L.at_ i * 54 < L.fin then L.sec (L.at_ i) else Fr.zs 64 from rfl)
  have hm := h.dsk.ok.most
  have HM := Lib.hid hm
  obtain ⟨g, d, dv, pv⟩ := I
  unfold Wd.ptr
  dsimp only at c0 c1 c2 c3 c4 c5 c6 c7 ⊢
  clear h hB hd hf hp hm c0 c1 c3 c4 c5 c6 c7
  generalize hK : L.start / 54 = K at *
  go_enter Tryz.func38, Tryz.ntmps38
  go_wp2_with fail
  go_loopw [12] (fun i wr => ∃ (j : Nat) (p' : Value) (S' : Dsk), j ≤ L.n ∧ i = .int .i64 j ∧ Wl wr B ⟨g, d.with p', dv, pv⟩ L S' ∧ L.wipeFrom L.n 0 S = L.wipeFrom (L.n - j) j S' ∧ S'.down = false ∧ L.first + L.n ≤ S'.firm.length ∧ S'.pend.length ≤ S.pend.length + j ∧ Below B w wr ∧ Out w wr (Wd.df ⟨g, d, dv, pv⟩ B w)) (fun i _ => L.n - (intOf i).toNat)
  case atStart => exact ⟨0, d.p, S, Nat.zero_le _, rfl, H.out, rfl, HD.out, HF.out, Nat.le_refl _, Below.refl _ _, Out.refl _ _⟩
  case round =>
    obtain ⟨j, p', S', hj, rfl, hW, hwf, hdn, hfl, hpl, hb, hoo⟩ := hrel
    have W := Lib.hid hW; have WF := Lib.hid hwf; have DN := Lib.hid hdn; have FL := Lib.hid hfl; have PL := Lib.hid hpl; have BB := Lib.hid hb; have OO := Lib.hid hoo
    clear hW hwf hdn hfl hpl hb hoo c2 H HD HF
    have HBr := Lib.hid (Nat.le_trans HB.out BB.out.size)
    by_cases hlt : j < L.n
    · have HLT := Lib.hid hlt
      have c2 : wr.cell? ⟨g, 2, none⟩ = some (.int .i64 L.n) := W.out.box.cell 2
      have c3 : wr.cell? ⟨g, 3, none⟩ = some (.int .i64 L.start) := W.out.box.cell 3
      have hn0 : ¬ (L.n : Int) = 0 := by omega
      have hn0' : ((L.n : Int) == 0) = false := by simp; omega
      have hn0'' : ¬ L.n = 0 := by omega
      have tm := tmod_twice ((j : Int) - (K : Int)) (L.n : Int) (by omega)
      have am := AI.out j
      have ha := Int.emod_nonneg ((j : Int) - (K : Int)) hn0
      have hb := Int.emod_lt_of_pos ((j : Int) - (K : Int)) (show (0 : Int) < (L.n : Int) by omega)
      have hc := Int.lt_tmod_of_pos ((j : Int) - (K : Int)) (show (0 : Int) < (L.n : Int) by omega)
      have hd := Int.tmod_lt_of_pos ((j : Int) - (K : Int)) (show (0 : Int) < (L.n : Int) by omega)
      go_wp2_with fail
      go_quiet (fail)
      rw [← am]
      have B1 := Lib.hid (below_drewN (Below.refl wr.heap.size wr) nq)
      have W1 := Lib.hid (W.out.kept B1.out)
      have BB1 := Lib.hid (below_then BB.out B1.out HBr.out)
      have HB1 := Lib.hid (Nat.le_trans HBr.out B1.out.size)
      have C1 := Lib.hid B1.out
      generalize wr.drewN nq = w1 at *
      have kg := AG.out j; have kl := AL.out j; have WDj := Lib.hid (WD.out j); have WSj := Lib.hid (WS.out j)
      have WR := Lib.hid (show L.wipeFrom (L.n - j) j S' = if S'.now.getD (L.first + j) ⟨#[]⟩ = L.want j then L.wipeFrom (L.n - (j + 1)) (j + 1) S' else if (S'.write ((L.first + j : Nat) : Int) (L.want j)).2 = 0 then L.wipeFrom (L.n - (j + 1)) (j + 1) (S'.write ((L.first + j : Nat) : Int) (L.want j)).1 else S'.write ((L.first + j : Nat) : Int) (L.want j) from by
        obtain ⟨m, hm'⟩ : ∃ m, L.n - j = m + 1 := ⟨L.n - j - 1, by omega⟩
        rw [hm', show L.n - (j + 1) = m by omega]
        rfl)
      have WU := Lib.hid (write_up (S := S') DN.out ((L.first + j : Nat) : Int) (L.want j)); have WP := Lib.hid (write_pend S' ((L.first + j : Nat) : Int) (L.want j))
      have SR := Lib.hid (show S'.read ((L.first + j : Nat) : Int) = (S'.now.getD (L.first + j) ⟨#[]⟩, 0) from by
        have b := FL.out
        unfold Dsk.read
        rw [DN.out, if_neg (by simp), if_pos ⟨by omega, by omega⟩, Int.toNat_natCast])
      clear tm am ha hb hc hd c2 c3 W BB B1 HBr AI AG AL WD WS
      generalize L.at_ j = k at *
      generalize L.want j = wt at *
      have CBl := Lib.hid (wblank_any w1)
      go_wp2_with fail
      refine CBl.out.mono ?_
      rintro e w2 ⟨rfl, hb⟩
      have W2 := Lib.hid (W1.out.kept hb); have BB2 := Lib.hid (below_then BB1.out hb HB1.out); have HB2 := Lib.hid (Nat.le_trans HB1.out hb.size); have C2 := Lib.hid (below_then C1.out hb C1.out.size)
      clear hb CBl W1 BB1 HB1 C1
      have c4 : w2.cell? ⟨g, 4, none⟩ = some (.int .i64 L.fin) := W2.out.box.cell 4
      have kb : k ≤ 1152921504606846976 := by omega
      have kb2 : k * 54 ≤ 1152921504607846976 := by omega
      go_upto_if 47 with fail
      go_cut [5] (fun s5 wx => s5 = .string wt ∧ Wl wx B ⟨g, d.with p', dv, pv⟩ L S' ∧ Below B w wx ∧ B ≤ wx.heap.size ∧ Below wr.heap.size wr wx)
      case first =>
        by_cases hlt2 : k * 54 < L.fin
        · have h1 : (k : Int) * 54 < (L.fin : Int) := by omega
          have sb : L.fin ≤ 1152921504606846976 := OK.out.big
          have CS := Lib.hid (sector_any W2.out k (by rw [flr_mul, hK]; omega) (by have := OK.out.sz; have := flr_mul L.start; omega) (by omega))
          have EW := Lib.hid (show L.sec k = wt from by have := WDj.out; rw [if_pos hlt2] at this; exact this.symm)
          rw [EW.out] at CS
          unfold Wd.ptr at CS
          dsimp only at CS
          clear hlt2 sb
          go_wp2_with fail
          · refine CS.out.mono ?_
            rintro e w3 ⟨rfl, hb⟩
            have W3 := Lib.hid (W2.out.kept hb); have BB3 := Lib.hid (below_then BB2.out hb HB2.out); have HB3 := Lib.hid (Nat.le_trans HB2.out hb.size); have C3 := Lib.hid (below_then C2.out hb C2.out.size)
            clear hb
            go_wp2_with fail
            go_meet
            exact ⟨rfl, W3.out, BB3.out, HB3.out, C3.out⟩
        · have h1 : ¬ (k : Int) * 54 < (L.fin : Int) := by omega
          have EW := Lib.hid (show Fr.zs 64 = wt from by have := WDj.out; rw [if_neg hlt2] at this; exact this.symm)
          clear hlt2
          go_wp2_with fail
          go_meet
          exact ⟨by rw [EW.out], W2.out, BB2.out, HB2.out, C2.out⟩
      case rest =>
      obtain ⟨rfl, hW, hb, hBx, hC⟩ := hcut
      have W3 := Lib.hid hW; have BB3 := Lib.hid hb; have HB3 := Lib.hid hBx; have C3 := Lib.hid hC
      clear hW hb hBx hC W2 BB2 HB2 C2 c4 WDj
      have c0 : wc.cell? ⟨g, 0, none⟩ = some (.pointer (some ⟨d.g, 0, none⟩)) := W3.out.box.cell 0
      have c1 : wc.cell? ⟨g, 1, none⟩ = some (.int .i64 L.first) := W3.out.box.cell 1
      have f16 : L.first + j ≤ 16384 := by have := FL.out; have := W3.out.dsk.ok.most; omega
      have CD := Lib.hid (fun q => by have c := read_any (W3.out.kept (below_drewN (Below.refl _ _) q)).dsk ((L.first + j : Nat) : Int); rw [SR.out] at c; exact c)
      unfold Ids.ptr at CD
      dsimp only [Ids.with] at CD
      rw [Int.natCast_add] at CD
      generalize S'.now.getD (L.first + j) ⟨#[]⟩ = rs at *
      go_wp2_with fail
      go_quiet ((go_at_call 39; exact Calls.quiet_of_same (CD.out _)))
      have B4 := Lib.hid (below_drewN (Below.refl wc.heap.size wc) nq)
      have W4 := Lib.hid (W3.out.kept B4.out); have BB4 := Lib.hid (below_then BB3.out B4.out HB3.out); have HB4 := Lib.hid (Nat.le_trans HB3.out B4.out.size); have C4 := Lib.hid (below_then C3.out B4.out C3.out.size)
      have O4 := Lib.hid (show Out w (wc.drewN nq) (Wd.df ⟨g, d, dv, pv⟩ B w) from OO.out.then_ (Out.of_below C4.out (fun _ => False)) (fun i _ hi => hi.elim))
      generalize wc.drewN nq = w4 at *
      clear W3 BB3 HB3 B4 C3 C4 OO CD SR c0 c1
      by_cases hsame : rs = wt
      · have b1 : (rs.toList != wt.toList) = false := by rw [hsame]; simp
        have b2 : (rs.toList == wt.toList) = true := by rw [hsame]; simp
        have b3 : (rs.toList = wt.toList) = True := by rw [hsame]; simp
        rw [if_pos hsame] at WR
        clear hsame
        go_wp2_with fail
        go_roundw
        case rel => exact ⟨j + 1, p', S', by have := HLT.out; omega, by go_num, W4.out, by rw [WF.out, WR.out], DN.out, FL.out, by have := PL.out; omega, BB4.out, O4.out⟩
        case measure => have := HLT.out; simp [intOf]; omega
      · have b2 : (rs.toList == wt.toList) = false := str_ne hsame
        have b1 : (rs.toList != wt.toList) = true := by simp [bne, b2]
        rw [if_neg hsame] at WR
        have W4d := Lib.hid (W4.out.kept (Below.refl w4.heap.size w4).drew)
        have cw := write_any W4d.out.dsk ((L.first + j : Nat) : Int) wt (show B ≤ w4.drew.heap.size from HB4.out) (by have := PL.out; have := HP.out; omega)
        generalize hP : S'.write ((L.first + j : Nat) : Int) wt = P at *
        rw [Int.natCast_add] at cw
        have CW := Lib.hid (show Calls Tryz.prog 21 #[.pointer (some ⟨d.g, 0, none⟩), .int .i64 ((L.first : Int) + (j : Int)), .string wt] w4.drew _ from cw)
        clear cw hP
        clear hsame
        have k0 : w4.cell? ⟨g, 0, none⟩ = some (.pointer (some ⟨d.g, 0, none⟩)) := W4.out.box.cell 0
        have k1 : w4.cell? ⟨g, 1, none⟩ = some (.int .i64 L.first) := W4.out.box.cell 1
        go_upto_region 11 with fail
        have hwf : IntKind.i64.wrap ((L.first : Int) + (j : Int)) = (L.first : Int) + (j : Int) := by rw [IntKind.wrap_i64]; omega
        have k0' := k0
        go_region_held3 (fun w' => w'.cell? ⟨g, 0, none⟩ = some (.pointer (some ⟨d.g, 0, none⟩)) ∧ w'.cell? ⟨g, 1, none⟩ = some (.int .i64 L.first)) (first | exact ⟨kw0, kw1⟩ | exact ⟨k0, k1⟩)
          (first
            | (go_simp; go_at_call 21; refine CW.out.mono ?_; rintro e wc ⟨rfl, p2, hd2, ho2⟩; have hw2 := W4d.out.disk hd2 ho2; have kw0 : wc.cell? ⟨g, 0, none⟩ = some (.pointer (some ⟨d.g, 0, none⟩)) := hw2.box.cell 0; have kw1 : wc.cell? ⟨g, 1, none⟩ = some (.int .i64 L.first) := hw2.box.cell 1))
        have BBw := Lib.hid ((BB4.out.drew).trans (ho2.below (show B ≤ w4.drew.heap.size from HB4.out) (fun k hk => (W4d.out.dsk.foot_lt hk).1)))
        have Ow := Lib.hid (df_then (I := ⟨g, d, dv, pv⟩) (J := ⟨g, d.with p', dv, pv⟩) (O4.out.drew) (df_one (I := ⟨g, d.with p', dv, pv⟩) W4d.out.dsk ho2) rfl rfl rfl rfl)
        have Ww := Lib.hid (show Wl wc B ⟨g, d.with p2, dv, pv⟩ L P.1 from hw2)
        clear hd2 ho2 hw2 kw0 kw1 k0 k1 k0' W4 W4d BB4 CW
        obtain ⟨S2, e2⟩ := P
        dsimp only at WR WU WP Ww ⊢
        by_cases he : e2 = 0
        · subst he
          rw [if_pos rfl] at WR
          obtain ⟨u1, u2⟩ := WU.out rfl
          have U1 := Lib.hid u1; have U2 := Lib.hid u2
          clear u1 u2 WU
          go_wp2_with fail
          go_roundw
          case rel => exact ⟨j + 1, p2, S2, by have := HLT.out; omega, by go_num, Ww.out, by rw [WF.out, WR.out], U1.out, by rw [U2.out]; exact FL.out, by have := PL.out; have := WP.out; omega, BBw.out, Ow.out⟩
          case measure => have := HLT.out; simp [intOf]; omega
        · rw [if_neg he] at WR
          have WT := Lib.hid (WF.out.trans WR.out)
          have hne : (e2 != 0) = true := by simp [he]
          have hne' : (e2 == 0) = false := by simp [he]
          clear WF WR WU
          go_wp2_with fail
          go_ret
          exact ⟨by rw [WT.out]; rfl, p2, by rw [WT.out]; exact Ww.out, BBw.out, Ow.out⟩
    · obtain rfl : j = L.n := by omega
      have WT := Lib.hid (show L.wipeFrom L.n 0 S = S'.barrier from by rw [WF.out, Nat.sub_self]; rfl)
      have c0 : wr.cell? ⟨g, 0, none⟩ = some (.pointer (some ⟨d.g, 0, none⟩)) := W.out.box.cell 0
      have cb := barrier_any W.out.dsk
      have CB := Lib.hid (show Calls Tryz.prog 23 #[.pointer (some ⟨d.g, 0, none⟩)] wr _ from cb)
      clear cb
      go_wp2_with fail
      refine CB.out.mono ?_
      rintro e w5 ⟨rfl, p2, hd2, ho2⟩
      have W5 := Lib.hid (show Wl w5 B ⟨g, d.with p2, dv, pv⟩ L S'.barrier.1 from W.out.disk hd2 ho2)
      have BB5 := Lib.hid (BB.out.trans (ho2.below HBr.out (fun k hk => (W.out.dsk.foot_lt hk).1)))
      have O5 := Lib.hid (df_then (I := ⟨g, d, dv, pv⟩) (J := ⟨g, d.with p', dv, pv⟩) OO.out (df_one (I := ⟨g, d.with p', dv, pv⟩) W.out.dsk ho2) rfl rfl rfl rfl)
      clear hd2 ho2 CB c0
      go_wp2_with fail
      go_ret
      exact ⟨by rw [WT.out]; rfl, p2, by rw [WT.out]; exact W5.out, BB5.out, O5.out⟩
end Go.Proofs.YtgafajbdmegfgaaGreat
