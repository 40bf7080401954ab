/- The walk of DiskFirm. -/
import Derived.Test.YtlbpbegnknpckaaDskRead
set_option linter.unusedVariables false
set_option linter.unusedSimpArgs false
namespace Go.Proofs.Ytlbpbegnknpckaa
open Go.RowKit

/-- A device that goes on without a bound: what was written last is what is firm with the pending writes laid over it. -/
structure Lv (S : Dsk) (c k : Nat) : Prop where
  down : S.down = false
  fuel : S.fuel = -1
  len : S.firm.length = c
  pend : S.pend.length ≤ k
  now : S.now = apply S.firm S.pend
theorem Lv.start (c : Nat) (zs : List ByteArray) (h : zs.length = c) : Lv (.start zs) c 0 := ⟨rfl, rfl, h, Nat.le_refl _, rfl⟩
theorem Lv.wrote {S : Dsk} {c k : Nat} (h : Lv S c k) (i : Nat) (d : ByteArray) : Lv (S.wrote i d) c (k + 1) := by
  refine ⟨h.down, ?_, h.len, by have := h.pend; simp [Dsk.wrote]; omega, ?_⟩
  · have := h.fuel; simp only [Dsk.wrote, Dsk.burnt]; rw [if_neg (by omega)]; exact this
  · show S.now.set i d = apply S.firm (S.pend ++ [(i, d)])
    unfold apply
    rw [List.foldl_append, h.now]
    rfl
theorem Lv.more {S : Dsk} {c k j : Nat} (h : Lv S c k) (hj : k ≤ j) : Lv S c j := ⟨h.down, h.fuel, h.len, Nat.le_trans h.pend hj, h.now⟩
theorem Lv.write {S : Dsk} {c k : Nat} (h : Lv S c k) (i : Nat) (d : ByteArray) : Lv (S.write i d).1 c (k + 1) := by
  unfold Dsk.write
  rw [if_neg (by rw [h.down]; simp)]
  split
  · rw [if_neg (by rw [h.fuel]; omega)]; exact h.wrote _ _
  · exact h.more (Nat.le_succ _)
theorem Lv.write_e {S : Dsk} {c k : Nat} (h : Lv S c k) (i : Nat) (d : ByteArray) (hi : i < c) (h64 : d.size = 64) : S.write i d = (S.wrote i d, 0) :=
  write_done_ h.down (by rw [h.len]; exact hi) h64 (by rw [h.fuel]; omega)
where write_done_ {S : Dsk} {k : Nat} {d : ByteArray} (h1 : S.down = false) (h2 : k < S.firm.length) (h3 : d.size = 64) (h4 : S.fuel ≠ 0) : S.write (k : Int) d = (S.wrote k d, 0) := write_done h1 h2 h3 h4
theorem Lv.sync {S : Dsk} {c k : Nat} (h : Lv S c k) : S.barrier = (S.synced, 0) ∧ Lv S.synced c 0 ∧ S.synced.firm = S.now ∧ S.synced.now = S.now ∧ S.synced.pend = [] := by
  refine ⟨by unfold Dsk.barrier; rw [if_neg (by rw [h.down]; simp), if_neg (by rw [h.fuel]; omega)], ⟨h.down, ?_, ?_, Nat.le_refl _, h.now⟩, h.now.symm, rfl, rfl⟩
  · have := h.fuel; simp only [Dsk.synced, Dsk.burnt]; rw [if_neg (by omega)]; exact this
  · show (apply S.firm S.pend).length = c; rw [apply_length]; exact h.len
theorem Lv.read {S : Dsk} {c k : Nat} (h : Lv S c k) (i : Nat) (hi : i < c) : S.read i = (S.now.getD i ⟨#[]⟩, 0) := by
  unfold Dsk.read
  rw [if_neg (by rw [h.down]; simp), if_pos ⟨by omega, by rw [h.len]; omega⟩, Int.toNat_natCast]

def a3 (f : Nat → ByteArray) : Array Value := #[.string (f 0), .string (f 1), .string (f 2)]
theorem three {k : Nat} (h : k < 3) : k = 0 ∨ k = 1 ∨ k = 2 := by omega
theorem a3_get (f : Nat → ByteArray) (k : Nat) (h : k < 3) : (a3 f)[k]? = some (.string (f k)) := by rcases three h with rfl | rfl | rfl <;> rfl
def upTo (x : Nat → ByteArray) (k i : Nat) : ByteArray := if i < k then x i else ⟨#[]⟩
theorem a3_up (x : Nat → ByteArray) (k : Nat) (h : k < 3) : (a3 (upTo x k)).setIfInBounds k (.string (x k)) = a3 (upTo x (k + 1)) := by
  rcases three h with rfl | rfl | rfl <;> simp [a3, upTo]
theorem a3_full (x : Nat → ByteArray) : a3 (upTo x 3) = a3 x := by simp [a3, upTo]

theorem Kp.mono {w : World} {B B' : Nat} {v : Value} {m : Nat} {kb : Nat → Bool} (h : Kp w B v m kb) (hB : B ≤ B') : Kp w B' v m kb := by
  obtain ⟨a, c, e, h⟩ := h
  refine ⟨a, c, e, fun hm => ?_⟩
  obtain ⟨b, off, e1, hlt, hc⟩ := h hm
  exact ⟨b, off, e1, by omega, hc⟩
theorem crash_empty {T : Dsk} (h : T.pend = []) (c : Nat) (kb : Nat → Bool) : T.crash c kb = .start T.firm := by
  unfold Dsk.crash
  rw [h]
  rfl

/-- The texts, one by one, are written where they belong: what a round knows. -/
structure Rd (w0 wr : World) (B : Nat) (I : Ids) (p : Value) (S : Dsk) (c k : Nat) : Prop where
  dk : Dk wr B (I.with p) S
  bel : Below w0.heap.size w0 wr
  lv : Lv S c k

set_option maxHeartbeats 4000000 in
theorem firm_core (v u : Value) (m c : Nat) (tx : Nat → ByteArray) (kb : Nat → Bool) (w : World) (ht : Sq w w.heap.size v m (fun i => .string (tx i))) (hm : m ≤ 8796093022207) (hsz : ∀ i, i < m → (tx i).size ≤ maxLen) (hk : Kp w w.heap.size u c kb) :
    Calls Try.prog 7 #[v, u] w fun e w' => e = .returned (.bool true) ∧ Below w.heap.size w w' := by
  have ca := awake_any w
  have cn := fun w => new_good 3 w (by omega) (by omega)
  have CA := Lib.hid ca; have CN := Lib.hid cn; have HSZ := Lib.hid hsz; have HK := Lib.hid hk
  clear ca cn hsz hk
  obtain ⟨a, ac, rfl, ht⟩ := ht
  have HT := Lib.hid ht; clear ht
  go_enter Try.func7, Try.ntmps7
  go_wp2_with fail
  refine CA.out.mono ?_
  rintro e w1 ⟨rfl, hb1⟩
  go_wp2_with fail
  refine (CN.out w1).mono ?_
  rintro e w2 ⟨I, rfl, hd2, hb2⟩
  have R0 := Lib.hid (Rd.mk (I := I) (p := I.p) hd2 (below_then hb1 hb2 hb1.size) (Lv.start 3 (blanks 3) (by simp [blanks])))
  have S1 := Lib.hid hb1.size
  clear hb1 hb2 hd2
  unfold Ids.ptr
  go_wp2
  go_loopw [25] (fun i wr => ∃ (k : Nat) (p : Value) (S : Dsk), k ≤ m ∧ i = .int .i64 k ∧ Rd w wr w1.heap.size I p S 3 k) (fun i _ => m - (intOf i).toNat)
  case atStart => exact ⟨0, _, _, Nat.zero_le _, rfl, R0.out⟩
  case round =>
    obtain ⟨k, p, S, hk, rfl, R⟩ := hrel
    have hfr : ∀ j, (I.with p).foot j → w.heap.size ≤ j := fun j hj => Nat.le_trans S1.out (R.dk.foot_lt hj).1
    by_cases hlt : k < m
    · obtain ⟨b, off, rfl, hbB, hcell⟩ := HT.out (by omega)
      have q0 : wr.cell? ⟨b, off + k, none⟩ = some (.string (tx k)) := by rw [R.bel.cell (p := ⟨b, off + k, none⟩) hbB]; exact hcell k hlt
      have cp := fun w => padded_any (tx k) w (HSZ.out k hlt)
      have CP := Lib.hid cp; have RR := Lib.hid R; have HF := Lib.hid hfr
      clear cp R hfr hcell
      go_wp2_with fail
      refine (CP.out _).mono ?_
      rintro e w4 ⟨rfl, hb4⟩
      have hd4 := RR.out.dk.kept hb4
      have cw := write_any hd4 ((k % 3 : Nat) : Int) (pad (tx k)) (by have := hd4.box.lt; have := hd4.bg; omega) (by have := RR.out.lv.pend; omega)
      have lw := RR.out.lv.write (k % 3) (pad (tx k))
      generalize S.write ((k % 3 : Nat) : Int) (pad (tx k)) = Sb at cw lw
      obtain ⟨S', e'⟩ := Sb
      rw [show ((k % 3 : Nat) : Int) = (k : Int) % 3 by omega] at cw
      have HB4 := Lib.hid (below_then RR.out.bel hb4 RR.out.bel.size)
      have C := Lib.hid cw; have LW := Lib.hid lw
      clear cw lw hb4 hd4
      unfold Ids.ptr Ids.with at C
      go_wp2_with fail
      refine C.out.mono ?_
      rintro e w5 ⟨rfl, p5, hd5, ho5⟩
      have R5 := Lib.hid (Rd.mk (I := I) hd5 (HB4.out.trans (ho5.below HB4.out.size HF.out)) LW.out)
      clear hd5 ho5
      go_wp2
      go_roundw
      case rel => exact ⟨k + 1, p5, S', by omega, by go_num, R5.out⟩
      case measure => simp [intOf]; omega
    · obtain rfl : k = m := by omega
      obtain ⟨sy0, sy1, sy2, sy3, sy4⟩ := R.lv.sync
      have cb := barrier_any R.dk
      rw [sy0] at cb
      have CB := Lib.hid cb; have RR := Lib.hid R; have HF := Lib.hid hfr; have SY1 := Lib.hid sy1; have SY2 := Lib.hid sy2; have SY3 := Lib.hid sy3; have SY4 := Lib.hid sy4
      clear cb R hfr sy0 sy1 sy2 sy3 sy4
      unfold Ids.ptr Ids.with at CB
      go_wp2_with fail
      refine CB.out.mono ?_
      rintro e w5 ⟨rfl, p5, hd5, ho5⟩
      have R5 := Lib.hid (Rd.mk (I := I) (p := p5) hd5 (RR.out.bel.trans (ho5.below RR.out.bel.size HF.out)) SY1.out)
      have cpd := pending_any hd5
      rw [SY4.out] at cpd
      have CPD := Lib.hid cpd
      clear hd5 ho5 cpd
      dsimp only [Ids.ptr, Ids.with, List.length_nil] at CPD
      go_wp2_with fail
      refine CPD.out.mono ?_
      rintro e w6 ⟨rfl, hw⟩
      subst w6
      go_wp2
      have gA : Bk (w5.alloc (.cells #[.string ⟨#[]⟩, .string ⟨#[]⟩, .string ⟨#[]⟩] 57)) w5.heap.size 57 (a3 (upTo (fun i => S.synced.now.getD i ⟨#[]⟩) 0)) := Bk.new _ _ _
      have hA := (R5.out.dk.kept ((Below.refl _ _).alloc (Nat.le_refl _) (.cells #[.string ⟨#[]⟩, .string ⟨#[]⟩, .string ⟨#[]⟩] 57)))
      have bA := R5.out.bel.alloc R5.out.bel.size (.cells #[.string ⟨#[]⟩, .string ⟨#[]⟩, .string ⟨#[]⟩] 57)
      have GA := Lib.hid gA; have HA := Lib.hid hA; have BA := Lib.hid bA; have LA := Lib.hid R5.out.lv; have SA := Lib.hid R5.out.bel.size
      clear gA hA bA
      generalize hx : (fun i => S.synced.now.getD i ⟨#[]⟩) = x at *
      have HX := Lib.hid hx; clear hx
      generalize S.synced = T at *
      generalize w5.alloc (.cells #[.string ⟨#[]⟩, .string ⟨#[]⟩, .string ⟨#[]⟩] 57) = w6 at *
      go_loopw [45] (fun i wr => ∃ j : Nat, j ≤ 3 ∧ i = .int .i64 j ∧ Bk wr w5.heap.size 57 (a3 (upTo x j)) ∧ Dk wr w1.heap.size (I.with p5) T ∧ Below w.heap.size w wr) (fun i _ => 3 - (intOf i).toNat)
      case atStart => exact ⟨0, by omega, rfl, GA.out, HA.out, BA.out⟩
      case round =>
        obtain ⟨j, hj, rfl, g, hd, hb⟩ := hrel
        by_cases hj3 : j < 3
        · have cr := read_any hd j
          rw [LA.out.read j hj3, show T.now.getD j ⟨#[]⟩ = x j from congrFun HX.out j] at cr
          have ff := g.fz j
          have cc := g.cell j
          rw [a3_get _ _ hj3] at cc
          have g2 := g.set j (.string (x j))
          rw [a3_up x j hj3] at g2
          have hne : ∀ q, (I.with p5).foot q → q ≠ w5.heap.size := fun q hq e => by
            subst e
            rcases hq with e | e | e | e
            · exact g.ne_ hd.box (by decide) e
            · exact hd.firm.ne_bk g (by decide) e.symm
            · exact hd.now.ne_bk g (by decide) e.symm
            · obtain ⟨_, _, cur, hc⟩ := owns_block hd.pend e
              exact hc.ne_ g (by decide) rfl
          have hd2 : Dk (wr.setCell ⟨w5.heap.size, j, none⟩ (.string (x j))) w1.heap.size (I.with p5) T := hd.of_same fun q hq => Below.heap_setCell wr _ _ q (hne q hq)
          have hb2 := hb.setCell (p := ⟨w5.heap.size, j, none⟩) SA.out (.string (x j))
          have CR := Lib.hid cr; have G2 := Lib.hid g2; have HD2 := Lib.hid hd2; have HB2 := Lib.hid hb2
          clear cr g g2 hd hd2 hb hb2 hne
          dsimp only [Ids.ptr, Ids.with] at CR
          go_wp2_with fail
          refine CR.out.mono ?_
          rintro e w7 ⟨rfl, hw⟩
          subst w7
          go_wp2
          go_roundw
          case rel => exact ⟨j + 1, by omega, by go_num, G2.out, HD2.out, HB2.out⟩
          case measure => simp [intOf]; omega
        · obtain rfl : j = 3 := by omega
          rw [a3_full] at g
          have cc := crash_any hd u c kb ((HK.out.kept hb (Nat.le_refl _)).mono S1.out)
          rw [crash_empty SY4.out] at cc
          have lf : Lv (Dsk.start T.firm) 3 0 := Lv.start 3 _ (by have := LA.out.len; exact this)
          have hfe : T.firm = T.now := SY2.out.trans SY3.out.symm
          have hlt : ∀ q, (I.with p5).foot q → w.heap.size ≤ q := fun q hq => Nat.le_trans S1.out (hd.foot_lt hq).1
          have hne : ¬ (I.with p5).foot w5.heap.size := fun hq => by
            rcases hq with e | e | e | e
            · exact g.ne_ hd.box (by decide) e
            · exact hd.firm.ne_bk g (by decide) e.symm
            · exact hd.now.ne_bk g (by decide) e.symm
            · obtain ⟨_, _, cur, hc⟩ := owns_block hd.pend e
              exact hc.ne_ g (by decide) rfl
          have CC := Lib.hid cc; have G := Lib.hid g; have HB := Lib.hid hb; have LF := Lib.hid lf; have HFE := Lib.hid hfe; have HLT := Lib.hid hlt; have HNE := Lib.hid hne
          clear cc g hb lf hd hfe hlt hne
          dsimp only [Ids.ptr, Ids.with] at CC
          go_wp2_with fail
          refine CC.out.mono ?_
          rintro e w7 ⟨J, rfl, _, hj7, ho7, _⟩
          have G7 := Lib.hid (ho7.bk G.out HNE.out); have HJ7 := Lib.hid hj7; have HB7 := Lib.hid (HB.out.trans (ho7.below HB.out.size HLT.out))
          clear hj7 ho7 G HB
          go_wp2
          go_loopw [60] (fun i ws => ∃ j : Nat, j ≤ 3 ∧ i = .int .i64 j ∧ Bk ws w5.heap.size 57 (a3 x) ∧ Dk ws wr.heap.size J (.start T.firm) ∧ Below w.heap.size w ws) (fun i _ => 3 - (intOf i).toNat)
          case atStart => exact ⟨0, by omega, rfl, G7.out, HJ7.out, HB7.out⟩
          case round =>
            obtain ⟨j, hj, rfl, g, hd, hb⟩ := hrel
            by_cases hj3 : j < 3
            · have cr := read_any hd j
              rw [LF.out.read j hj3, show (Dsk.start T.firm).now.getD j ⟨#[]⟩ = x j from by rw [← HX.out, ← HFE.out]; rfl] at cr
              have c0 := g.cell j
              rw [a3_get _ _ hj3] at c0
              have CR := Lib.hid cr; have G := Lib.hid g; have HD := Lib.hid hd; have HB := Lib.hid hb
              clear cr g hd hb
              dsimp only [Ids.ptr] at CR
              go_wp2_with fail
              refine CR.out.mono ?_
              rintro e w8 ⟨rfl, hw⟩
              subst w8
              go_wp2
              go_roundw
              case rel => exact ⟨j + 1, by omega, by go_num, G.out, HD.out, HB.out⟩
              case measure => simp [intOf]; omega
            · go_wp2
              go_ret
              exact ⟨rfl, hb⟩

theorem walk_DiskFirm (v : Value) (a0 : Slq) (u : Value) (a1 : Slq) (w : World) (h0 : IsTx w v a0) (s0 : a0.cap * 16 ≤ 140737488351232) (h1 : IsBs w u a1) :
    Calls Try.prog 7 #[v, u] w fun e w' => e = .returned (.bool true) ∧ Below w.heap.size w w' := by
  obtain ⟨hs, tx, htx⟩ := h0
  obtain ⟨ks, kb, hkb⟩ := h1
  exact firm_core v u a0.len a1.len tx kb w (Sq.of hs fun i hi => (htx i hi).1) (by have := hs.le; omega) (fun i hi => (htx i hi).2) (Kp.of (Sq.of ks hkb))
end Go.Proofs.Ytlbpbegnknpckaa
