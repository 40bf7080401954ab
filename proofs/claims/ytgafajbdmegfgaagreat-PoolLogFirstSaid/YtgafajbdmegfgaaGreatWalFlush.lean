/- The walk of Flush. -/
import Derived.Test.YtgafajbdmegfgaaGreatWalSec
import Derived.BigQuiet
set_option linter.unusedVariables false
set_option linter.unusedSimpArgs false
namespace Go.Proofs.YtgafajbdmegfgaaGreat
open Go.RowKit

/-- So many sectors of the stream written, from sector k on, while the device goes along. -/
def Lg.wr (L : Lg) : Nat → Nat → Dsk → Dsk × Int
  | 0, _, S => (S, 0)
  | m + 1, k, S => if (S.write ((L.first + k % L.n : Nat) : Int) (L.sec k)).2 = 0 then L.wr m (k + 1) (S.write ((L.first + k % L.n : Nat) : Int) (L.sec k)).1 else S.write ((L.first + k % L.n : Nat) : Int) (L.sec k)
def Lg.rounds (L : Lg) : Nat := (L.fin + 53) / 54 - L.firm / 54
def Lg.flush (L : Lg) (S : Dsk) (at_ : Int) : Lg × Dsk × Int :=
  if at_ < L.firm ∨ L.firm = L.fin then (L, S, 0)
  else if (L.wr L.rounds (L.firm / 54) S).2 ≠ 0 then (L, L.wr L.rounds (L.firm / 54) S)
  else if (L.wr L.rounds (L.firm / 54) S).1.barrier.2 ≠ 0 then (L, (L.wr L.rounds (L.firm / 54) S).1.barrier)
  else ({ L with firm := L.fin }, (L.wr L.rounds (L.firm / 54) S).1.barrier)
theorem write_pend (S : Dsk) (i : Int) (d : ByteArray) : (S.write i d).1.pend.length ≤ S.pend.length + 1 := by
  unfold Dsk.write
  split
  · simp
  split
  · split
    · simp
    · simp [Dsk.wrote]
  · simp
/-- What the device's own work may touch. -/
def Wd.df (I : Wd) (B : Nat) (w : World) (k : Nat) : Prop := k = I.g ∨ k = I.d.g ∨ k = I.d.f ∨ k = I.d.n ∨ (B ≤ k ∧ ∃ cur, Bk w k 93 cur)
theorem df_one {w w' : World} {B : Nat} {I : Wd} {S : Dsk} (h : Dk w B I.d S) (ho : Out w w' I.d.foot) : Out w w' (I.df B w) := by
  refine ho.mono fun i _ hi => ?_
  rcases hi with rfl | rfl | rfl | hk
  · exact .inr (.inl rfl)
  · exact .inr (.inr (.inl rfl))
  · exact .inr (.inr (.inr (.inl rfl)))
  · exact .inr (.inr (.inr (.inr ⟨(owns_block h.pend hk).1, (owns_block h.pend hk).2.2⟩)))
theorem df_then {a b c : World} {B : Nat} {I J : Wd} (h : Out a b (I.df B a)) (k : Out b c (J.df B b)) (h1 : J.g = I.g) (h2 : J.d.g = I.d.g) (h3 : J.d.f = I.d.f) (h4 : J.d.n = I.d.n) : Out a c (I.df B a) := by
  refine h.then_ k fun i hi hj => ?_
  rcases hj with e | e | e | e | ⟨hB, cur, hb⟩
  · exact .inl (e.trans h1)
  · exact .inr (.inl (e.trans h2))
  · exact .inr (.inr (.inl (e.trans h3)))
  · exact .inr (.inr (.inr (.inl (e.trans h4))))
  · by_cases hd : I.df B a i
    · exact hd
    · exact .inr (.inr (.inr (.inr ⟨hB, cur, (h.block i hi hd).symm.trans hb⟩)))
theorem df_below {w w' : World} {B : Nat} {I : Wd} {L : Lg} {S : Dsk} (h : Wl w B I L S) (ho : Out w w' (I.df B w)) (hB : B ≤ w.heap.size) : Below B w w' := by
  refine ho.below hB fun k hk => ?_
  rcases hk with rfl | rfl | rfl | rfl | ⟨hk, _⟩
  · exact h.bg
  · exact h.dsk.bg
  · exact h.dsk.bf
  · exact h.dsk.bn
  · exact hk
theorem app_below {w w' : World} {B : Nat} {I : Wd} {L : Lg} {S : Dsk} (h : Wl w B I L S) (ho : AppOut w w' I) (hB : B ≤ w.heap.size) : Below B w w' := by
  refine Out.below ho hB fun k hk => ?_
  rcases hk with rfl | hk | hk
  · exact h.bg
  · exact (owns_block h.plc hk).1
  · exact (owns_block h.dat hk).1
def FlushPost (w : World) (B : Nat) (I : Wd) (r : Lg × Dsk × Int) (e : Ending) (w' : World) : Prop :=
  e = .returned (.int .i64 r.2.2) ∧ ∃ p', Wl w' B ⟨I.g, I.d.with p', I.dv, I.pv⟩ r.1 r.2.1 ∧ Out w w' (I.df B w)

set_option maxRecDepth 100000 in
set_option maxHeartbeats 4000000 in
theorem flush_any {w : World} {B : Nat} {I : Wd} {L : Lg} {S : Dsk} (h : Wl w B I L S) (at_ : Int) (hB : B ≤ w.heap.size) (hp : S.pend.length ≤ 4398046511104) :
    Calls Tryz.prog 56 #[I.ptr, .int .i64 at_] w (FlushPost w B I (L.flush S at_)) := by
  have H := Lib.hid h; have HB := Lib.hid hB; have HP := Lib.hid hp
  have OK := Lib.hid h.ok
  obtain ⟨c0, c1, c2, c3, c4, c5, c6, c7⟩ := h.cells
  unfold FlushPost Lg.flush
  have f1 : L.firm ≤ 1152921504606846976 := by have := OK.out.fe; have := OK.out.big; omega
  have f2 : L.fin ≤ 1152921504606846976 := OK.out.big
  have lk := fun w' (hb : Below w.heap.size w w') => h.kept hb
  have LK := Lib.hid lk
  clear lk h
  by_cases h1 : at_ < (L.firm : Int)
  · rw [if_pos (.inl h1)]
    unfold Wd.ptr
    clear hp hB
    go_enter Tryz.func56, Tryz.ntmps56
    go_wp2_with fail
    go_quiet (fail)
    go_wp2
    go_ret
    exact ⟨rfl, I.d.p, LK.out _ (below_drewN (Below.refl _ _) nq), Out.of_below (below_drewN (Below.refl _ _) nq) _⟩
  by_cases h2 : L.firm = L.fin
  · rw [if_pos (.inr h2)]
    unfold Wd.ptr
    have h2b : ((L.firm : Int) == (L.fin : Int)) = true := by simp; omega
    clear hp hB h2
    go_enter Tryz.func56, Tryz.ntmps56
    go_wp2_with fail
    go_quiet (fail)
    go_wp2
    go_ret
    exact ⟨rfl, I.d.p, LK.out _ (below_drewN (Below.refl _ _) nq), Out.of_below (below_drewN (Below.refl _ _) nq) _⟩
  rw [if_neg (by rintro (h | h); exact h1 h; exact h2 h)]
  have h2' : ¬ (L.firm : Int) = (L.fin : Int) := by omega
  have h2b : ((L.firm : Int) == (L.fin : Int)) = false := by simp; omega
  have R1 := Lib.hid (show (L.wr L.rounds (L.firm / 54) S).2 ≠ 0 → (if (L.wr L.rounds (L.firm / 54) S).2 ≠ 0 then (L, L.wr L.rounds (L.firm / 54) S) else if (L.wr L.rounds (L.firm / 54) S).1.barrier.2 ≠ 0 then (L, (L.wr L.rounds (L.firm / 54) S).1.barrier) else ({ L with firm := L.fin }, (L.wr L.rounds (L.firm / 54) S).1.barrier)) = (L, L.wr L.rounds (L.firm / 54) S) from fun h => if_pos h)
  have R2 := Lib.hid (show (L.wr L.rounds (L.firm / 54) S).2 = 0 → (if (L.wr L.rounds (L.firm / 54) S).2 ≠ 0 then (L, L.wr L.rounds (L.firm / 54) S) else if (L.wr L.rounds (L.firm / 54) S).1.barrier.2 ≠ 0 then (L, (L.wr L.rounds (L.firm / 54) S).1.barrier) else ({ L with firm := L.fin }, (L.wr L.rounds (L.firm / 54) S).1.barrier)) = (if (L.wr L.rounds (L.firm / 54) S).1.barrier.2 ≠ 0 then (L, (L.wr L.rounds (L.firm / 54) S).1.barrier) else ({ L with firm := L.fin }, (L.wr L.rounds (L.firm / 54) S).1.barrier)) from fun h => if_neg (fun h' => h' h))
  generalize (if (L.wr L.rounds (L.firm / 54) S).2 ≠ 0 then (L, L.wr L.rounds (L.firm / 54) S) else if (L.wr L.rounds (L.firm / 54) S).1.barrier.2 ≠ 0 then (L, (L.wr L.rounds (L.firm / 54) S).1.barrier) else ({ L with firm := L.fin }, (L.wr L.rounds (L.firm / 54) S).1.barrier)) = R at *
  have lt : L.firm < L.fin := by have := OK.out.fe; omega
  have RD := Lib.hid (show L.rounds = (L.fin + 53) / 54 - L.firm / 54 from rfl)
  have hm : L.rounds ≤ 300000 := by
    have a := OK.out.rm; have b := OK.out.sf; have c := OK.out.n2
    have d := flr_mul L.start
    have e : L.start / 54 ≤ L.firm / 54 := Nat.div_le_div_right b
    unfold Lg.rounds
    omega
  have et : (L.firm : Int).tdiv 54 = ((L.firm / 54 : Nat) : Int) := by rw [Int.tdiv_eq_ediv_of_nonneg (by omega)]; simp
  obtain ⟨g, d, dv, pv⟩ := I
  unfold Wd.ptr
  dsimp only at c0 c1 c2 c3 c4 c5 c6 c7 ⊢
  clear hp hB
  go_enter Tryz.func56, Tryz.ntmps56
  go_wp2_with fail
  go_quiet (fail)
  have B0 := Lib.hid (below_drewN (Below.refl w.heap.size w) nq)
  have W0 := Lib.hid (LK.out _ B0.out)
  generalize w.drewN nq = w1 at *
  clear c0 c1 c2 c3 c6 c7 LK h2' h2b
  have c5' : w1.cell? ⟨g, 5, none⟩ = some (.int .i64 L.firm) := W0.out.box.cell 5
  have c4' : w1.cell? ⟨g, 4, none⟩ = some (.int .i64 L.fin) := W0.out.box.cell 4
  clear c4 c5
  have D0 := Lib.hid (show Out w w1 (Wd.df ⟨g, d, dv, pv⟩ B w) from Out.of_below B0.out _)
  generalize hK0 : L.firm / 54 = K0 at *
  have HK0 := Lib.hid hK0
  go_wp2_with fail
  go_loopw [5] (fun i wr => ∃ (j : Nat) (p' : Value) (S' : Dsk), j ≤ L.rounds ∧ i = .int .i64 ((K0 + j : Nat) : Int) ∧ Wl wr B ⟨g, d.with p', dv, pv⟩ L S' ∧ L.wr L.rounds K0 S = L.wr (L.rounds - j) (K0 + j) S' ∧ S'.pend.length ≤ S.pend.length + j ∧ Out w wr (Wd.df ⟨g, d, dv, pv⟩ B w)) (fun i _ => L.fin + 100 - (intOf i).toNat)
  case atStart => exact ⟨0, d.p, S, Nat.zero_le _, by rw [Nat.add_zero, ← hK0, Int.natCast_ediv], W0.out, by rw [Nat.add_zero, Nat.sub_zero], Nat.le_refl _, D0.out⟩
  case round =>
    obtain ⟨j, p', S', hj, rfl, hW, hwr, hpl, ho⟩ := hrel
    have W2 := Lib.hid hW; have O2 := Lib.hid ho; have PL := Lib.hid hpl; have WR := Lib.hid hwr
    clear hW ho hpl hwr W0 D0 c5' c4'
    have c4 : wr.cell? ⟨g, 4, none⟩ = some (.int .i64 L.fin) := W2.out.box.cell 4
    have k0 : wr.cell? ⟨g, 0, none⟩ = some (.pointer (some ⟨d.g, 0, none⟩)) := W2.out.box.cell 0
    by_cases hlt : j < L.rounds
    · have hlt' : (K0 + j) * 54 < L.fin := by rw [RD.out] at hlt; omega
      have HJ := Lib.hid hlt
      have fk : flr L.start ≤ (K0 + j) * 54 := by
        have a := flr_mul L.start
        have b : L.start / 54 ≤ L.firm / 54 := Nat.div_le_div_right OK.out.sf
        omega
      have fz : (K0 + j) * 54 - flr L.start < L.data.size := by have := OK.out.sz; omega
      have FK := Lib.hid fk; have FZ := Lib.hid fz
      clear fk fz
      generalize hk : K0 + j = k at *
      have hc : (k : Int) * 54 < (L.fin : Int) := by omega
      have hk6 : k * 54 ≤ 1152921504606846976 := by omega
      have LK := Lib.hid (fun w' (hb : Below wr.heap.size wr w') => W2.out.kept hb)
      have LR := Lib.hid (fun w' (hb : Below wr.heap.size wr w') => ring_any (W2.out.kept hb) k (by omega))
      have LS := Lib.hid (fun w' (hb : Below wr.heap.size wr w') => sector_any (W2.out.kept hb) k FK.out FZ.out hk6)
      have LW := Lib.hid (fun w' (hb : Below wr.heap.size wr w') => show Calls Tryz.prog 21 #[.pointer (some ⟨d.g, 0, none⟩), .int .i64 ((L.first + k % L.n : Nat) : Int), .string (L.sec k)] w' _ from write_any (W2.out.kept hb).dsk ((L.first + k % L.n : Nat) : Int) (L.sec k) (by have := HB.out; have := B0.out.size; have := O2.out.size; have := hb.size; omega) (by have := PL.out; have := HP.out; omega))
      have WP := Lib.hid (write_pend S' ((L.first + k % L.n : Nat) : Int) (L.sec k))
      have WS := Lib.hid (show L.wr (L.rounds - j) k S' = if (S'.write ((L.first + k % L.n : Nat) : Int) (L.sec k)).2 = 0 then L.wr (L.rounds - (j + 1)) (k + 1) (S'.write ((L.first + k % L.n : Nat) : Int) (L.sec k)).1 else S'.write ((L.first + k % L.n : Nat) : Int) (L.sec k) from by
        obtain ⟨m, hm'⟩ : ∃ m, L.rounds - j = m + 1 := ⟨L.rounds - j - 1, by omega⟩
        rw [hm', show L.rounds - (j + 1) = m by omega]
        rfl)
      unfold Wd.ptr at LR LS
      dsimp only at LR LS
      generalize (L.first + k % L.n : Nat) = rp at *
      generalize L.sec k = sc at *
      go_wp2_with fail
      go_region_held3 (fun w' => w'.cell? ⟨g, 0, none⟩ = some (.pointer (some ⟨d.g, 0, none⟩))) (first | exact kw | exact kb | exact ka | exact k0)
        (first
          | (go_simp; go_at_call 59; refine (LR.out _ (Below.refl _ _).drew).mono ?_; rintro e wa ⟨rfl, na, hwa⟩; have ba : Below wr.heap.size wr wa := (by rw [hwa]; exact below_drewN (Below.refl _ _).drew na); have ka : wa.cell? ⟨g, 0, none⟩ = some (.pointer (some ⟨d.g, 0, none⟩)) := (W2.out.kept ba).box.cell 0; clear hwa)
          | (go_simp; go_at_call 64; refine (LS.out _ ba).mono ?_; rintro e wb ⟨rfl, hbb⟩; have bb : Below wr.heap.size wr wb := below_then ba hbb ba.size; have kb : wb.cell? ⟨g, 0, none⟩ = some (.pointer (some ⟨d.g, 0, none⟩)) := (W2.out.kept bb).box.cell 0; clear hbb)
          | (go_simp; go_at_call 21; refine (LW.out _ bb).mono ?_; rintro e wc ⟨rfl, p2, hd2, ho2⟩; have hw2 := (W2.out.kept bb).disk hd2 ho2; have kw : wc.cell? ⟨g, 0, none⟩ = some (.pointer (some ⟨d.g, 0, none⟩)) := hw2.box.cell 0))
      have O3 := Lib.hid (df_then (I := ⟨g, d, dv, pv⟩) (J := ⟨g, d.with p', dv, pv⟩) (O2.out.then_ (Out.of_below bb (fun _ => False)) (fun i _ hi => hi.elim)) (df_one (I := ⟨g, d.with p', dv, pv⟩) (W2.out.kept bb).dsk ho2) rfl rfl rfl rfl)
      have W3 := Lib.hid (show Wl wc B ⟨g, d.with p2, dv, pv⟩ L (S'.write (rp : Int) sc).1 from hw2)
      clear hd2 ho2 hw2 kw kb ka k0 ba bb W2 O2 LK LR LS LW c4
      generalize S'.write (rp : Int) sc = P at *
      obtain ⟨S2, e2⟩ := P
      dsimp only at WS W3 WP ⊢
      by_cases he : e2 = 0
      · subst he
        rw [if_pos rfl] at WS
        go_wp2_with fail
        go_roundw
        case rel => exact ⟨j + 1, p2, S2, by have := HJ.out; omega, by rw [← hk]; go_num, W3.out, by rw [WR.out, WS.out, show K0 + (j + 1) = k + 1 by omega], by have := WP.out; have := PL.out; omega, O3.out⟩
        case measure => simp [intOf]; omega
      · rw [if_neg he] at WS
        have WT := Lib.hid (WR.out.trans WS.out)
        have hne : (e2 != 0) = true := by simp [he]
        have hne' : (e2 == 0) = false := by simp [he]
        go_wp2_with fail
        go_ret
        have hr := R1.out (by rw [WT.out]; exact he)
        rw [WT.out] at hr
        exact ⟨by rw [hr]; rfl, p2, by rw [hr]; exact W3.out, O3.out⟩
    · obtain rfl : j = L.rounds := by omega
      have WT := Lib.hid (show L.wr L.rounds K0 S = (S', 0) from by rw [WR.out, Nat.sub_self]; rfl)
      have hge : ¬ ((K0 + L.rounds : Nat) : Int) * 54 < (L.fin : Int) := by have := RD.out; omega
      have hge2 : ((K0 + L.rounds : Nat) : Int) * 54 ≤ 1152921504606847076 := by have := RD.out; omega
      have hr := R2.out (by rw [WT.out])
      rw [WT.out] at hr
      have HR := Lib.hid hr
      clear hr
      have cb := barrier_any W2.out.dsk
      have CB := Lib.hid (show Calls Tryz.prog 23 #[.pointer (some ⟨d.g, 0, none⟩)] wr _ from cb)
      clear cb
      generalize K0 + L.rounds = k at *
      go_wp2_with fail
      refine CB.out.mono ?_
      rintro e wc ⟨rfl, p2, hd2, ho2⟩
      have W3 := Lib.hid (show Wl wc B ⟨g, d.with p2, dv, pv⟩ L S'.barrier.1 from W2.out.disk hd2 ho2)
      have O3 := Lib.hid (df_then (I := ⟨g, d, dv, pv⟩) (J := ⟨g, d.with p', dv, pv⟩) O2.out (df_one (I := ⟨g, d.with p', dv, pv⟩) W2.out.dsk ho2) rfl rfl rfl rfl)
      clear hd2 ho2 k0 W2 O2 c4 CB
      generalize S'.barrier = P at *
      obtain ⟨S2, e2⟩ := P
      dsimp only at W3 HR
      by_cases he : e2 = 0
      · subst he
        rw [if_neg (by simp)] at HR
        have z4 : wc.cell? ⟨g, 4, none⟩ = some (.int .i64 L.fin) := W3.out.box.cell 4
        have z5 : wc.cell? ⟨g, 5, none⟩ = some (.int .i64 L.firm) := W3.out.box.cell 5
        have f5 := W3.out.box.fz 5
        dsimp only at f5
        have K4 := Lib.hid (show Bk (wc.setCell ⟨g, 5, none⟩ (.int .i64 L.fin)) g 71 #[d.ptr, .int .i64 L.first, .int .i64 L.n, .int .i64 L.start, .int .i64 L.fin, .int .i64 L.fin, dv, pv] from W3.out.box.set 5 _)
        have P4 := Lib.hid (own_far W3.out.plc (p := ⟨g, 5, none⟩) W3.out.box (by decide) (.int .i64 L.fin)); have D4 := Lib.hid (own_far W3.out.dat (p := ⟨g, 5, none⟩) W3.out.box (by decide) (.int .i64 L.fin)); have S4 := Lib.hid (W3.out.dsk.far (p := ⟨g, 5, none⟩) W3.out.box (by decide) (by decide) (by decide) (.int .i64 L.fin))
        have O4 := Lib.hid (O3.out.set (q := ⟨g, 5, none⟩) (fun _ => .inl rfl) (.int .i64 L.fin))
        have BG := Lib.hid W3.out.bg
        clear W3 O3
        go_wp2_with fail
        go_ret
        exact ⟨by rw [HR.out]; rfl, p2, by rw [HR.out]; exact ⟨K4.out, BG.out, S4.out, D4.out, P4.out, ⟨OK.out.n1, OK.out.n2, OK.out.f1, OK.out.s0, Nat.le_trans OK.out.sf OK.out.fe, Nat.le_refl _, OK.out.big, OK.out.sz, OK.out.rm, OK.out.few, OK.out.asc, OK.out.hi⟩⟩, O4.out⟩
      · rw [if_pos he] at HR
        have hne : (e2 != 0) = true := by simp [he]
        have hne' : (e2 == 0) = false := by simp [he]
        go_wp2_with fail
        go_ret
        exact ⟨by rw [HR.out]; rfl, p2, by rw [HR.out]; exact W3.out, O3.out⟩
end Go.Proofs.YtgafajbdmegfgaaGreat
