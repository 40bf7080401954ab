/- RecBack, for a record and bytes that came in. -/
import Derived.Test.YtggabnmfjooejaaRecAwake
import Derived.Test.YtggabnmfjooejaaRecRead
import Derived.Test.YtggabnmfjooejaaRecDec2
import Derived.Test.YtggabnmfjooejaaRecRRight
set_option linter.unusedVariables false
set_option linter.unusedSimpArgs false
namespace Go.Proofs.Ytggabnmfjooejaa
open Go.RowKit Go.BigFrame

theorem rec_info : (Try.prog.info? 29).map (·.size) = some 14 := by kernel_rfl
/-- What came out of Decode, stored into a new block. -/
theorem rec_fresh {ops : Array Oper} {rest : List Oper} {o : Oper} {a : Act} {w : World} {Q : Exit → Act → World → Prop} (r : Rc) (vi vl : Value) (cs : Array Value) (hcs : r.cs vi vl = cs) {wi : World} {B n m : Nat} {im : Nat → Im} {al : Nat → Al} (hi : ImAt wi B vi n im) (hl : AlAt wi B vl m al)
    (hgd : o.guard = none ∧ o.dst = none) (x y : Operand) (ho : o.op = .store 29 x y) (hx : a.eval x = .pointer (some ⟨w.heap.size, 0, none⟩)) (hy : a.eval y = .agg cs) (h : wpList Try.prog ops Q rest a (w.alloc (.cells cs 29))) : wpList Try.prog ops Q (o :: rest) a (w.alloc (.cells (Rc.zero.cs nil_ nil_) 29)) := by
  subst hcs
  exact store_fresh 29 (Rc.zero.cs nil_ nil_) (r.cs vi vl) w.heap.size rfl hgd x y ho rec_info rfl (rec_cells14 rfl hi hl) hx hy h

theorem same_zero : Rc.zero.same Rc.zero := ⟨⟨rfl, rfl, rfl, rfl, rfl, rfl, rfl, rfl⟩, fun i hi => absurd hi (Nat.not_lt_zero i), fun i hi => absurd hi (Nat.not_lt_zero i)⟩

theorem str_beq_refl (a : ByteArray) : (a.toList == a.toList) = true := by simp

set_option maxRecDepth 100000 in
set_option maxHeartbeats 2500000 in
theorem walk_RecBack (v : Value) (q : Rcv) (s : ByteArray) (w : World) (h : IsRec w v q) (hs : s.size ≤ maxLen) :
    Calls Try.prog 5 #[v, .string s] w fun e w' => e = .returned (.bool true) ∧ Below w.heap.size w w' := by
  obtain ⟨r, vi, vl⟩ := q
  obtain ⟨hv, hI, hL, hk, hd, hbd, hbu, hbi, hbl⟩ := h
  dsimp only at hv hI hL hk hd hbd hbu
  clear hbi hbl hbd hbu hk hd
  subst hv
  have CA := Lib.hid awake_any
  have HS := Lib.hid hs
  have B0 := Lib.hid ((Below.refl w.heap.size w).alloc (Nat.le_refl _) (.cells (r.cs vi vl) 29))
  have K0 := Lib.hid (Bk.new w 29 (r.cs vi vl))
  have HI := Lib.hid hI; have HL := Lib.hid hL
  clear hI hL hs
  generalize hcs : r.cs vi vl = cs at *
  have HCS := Lib.hid hcs
  clear hcs
  go_enter Try.func5, Try.ntmps5
  go_wp2_with fail
  refine (CA.out _).mono ?_
  rintro e w1 ⟨rfl, hb⟩
  have K1 := Lib.hid (K0.out.kept hb)
  have B1 := Lib.hid (below_then B0.out hb B0.out.size)
  clear hb K0 B0 CA
  go_wp2_with (refine wpList_load_part 29 _ rfl (by first | rfl | kernel_rfl) w.heap.size 0 cs rfl (by have := K1.out; rw [← HCS.out] at this ⊢; exact rc_load this) ?_)
  rw [← HCS.out]
  refine (lencode_any r _ _ w1 ((HI.out.below B1.out (Nat.le_refl _)).mono B1.out.size) ((HL.out.below B1.out (Nat.le_refl _)).mono B1.out.size)).mono ?_
  rw [HCS.out]
  rintro e w2 ⟨hr, hb⟩
  have HR := Lib.hid hr
  have K2 := Lib.hid (K1.out.kept hb)
  have B2 := Lib.hid (below_then B1.out hb B1.out.size)
  clear hr hb K1 B1
  -- the second half, from any world on
  have TAIL : True := trivial
  rcases HR.out with ⟨rfl, hok⟩ | ⟨rfl, hno⟩
  · have OK := Lib.hid hok
    have DOK := Lib.hid (dec_back hok rfl)
    have SH := Lib.hid (fun n hn => dec_shorter hok n hn)
    have LO := Lib.hid (fun (R : ByteArray) (hR : R.size ≠ 0) => show ¬ decOk (r.bytes ++ R) from dec_longer hok hR)
    have hz := r.bytes_size hok.2.2.2.1
    have hzle : r.bytes.size ≤ 100000 := by have := hok.2.1.2.2.2.2.2.2.2.2.2.1; have := hok.2.1.2.2.2.2.2.2.2.2.2.2.2.2; have := hok.2.2.1; omega
    have hzge : 37 ≤ r.bytes.size := by omega
    clear hok hz HR
    generalize r.bytes = S at *
    go_wp2_with fail
    refine (ldecode_any S w2 (by unfold maxLen; omega)).mono ?_
    rintro e w3 (⟨vi7, vl7, _, rfl, im7, al7, hb⟩ | ⟨hno, _, _⟩)
    rotate_left
    · exact absurd DOK.out.1 hno
    have K3 := Lib.hid (K2.out.kept hb); have B3 := Lib.hid (below_then B2.out hb B2.out.size)
    have IM7 := Lib.hid im7; have AL7 := Lib.hid al7
    clear hb im7 al7 K2 B2
    generalize hc7 : (Rc.of S).cs vi7 vl7 = c7 at *
    have HC7 := Lib.hid hc7
    clear hc7
    have K7 := Lib.hid (Bk.new w3 29 c7)
    have B4 := Lib.hid (B3.out.alloc B3.out.size (.cells c7 29)); have K4 := Lib.hid (K3.out.alloc (.cells c7 29))
    have BB4 := Lib.hid ((Below.refl w3.heap.size w3).alloc (Nat.le_refl _) (.cells c7 29))
    go_wp2_with (refine rec_fresh (Rc.of S) vi7 vl7 c7 HC7.out IM7.out AL7.out ⟨rfl, rfl⟩ _ _ rfl rfl rfl ?_; generalize (w3.alloc (.cells c7 29)) = w4 at K7 B4 K4 BB4 ⊢)
    refine (ldecode_any (S.extract 0 (S.size - 1)) w4 (by rw [ex_size _ _ _ (by omega)]; unfold maxLen; omega)).mono ?_
    rintro e w5 (⟨_, _, hyes, _⟩ | ⟨_, rfl, hb⟩)
    · exact absurd hyes (SH.out _ (by omega))
    have K5 := Lib.hid (K4.out.kept hb); have K75 := Lib.hid (K7.out.kept hb); have B5 := Lib.hid (below_then B4.out hb B4.out.size); have BB5 := Lib.hid (below_then BB4.out hb BB4.out.size)
    clear hb K4 K7 B4 BB4 SH
    have K6 := Lib.hid (K5.out.alloc (.cells (Rc.zero.cs nil_ nil_) 29)); have K76 := Lib.hid (K75.out.alloc (.cells (Rc.zero.cs nil_ nil_) 29)); have B6 := Lib.hid (B5.out.alloc B5.out.size (.cells (Rc.zero.cs nil_ nil_) 29)); have BB6 := Lib.hid (BB5.out.alloc BB5.out.size (.cells (Rc.zero.cs nil_ nil_) 29))
    clear K5 K75 B5 BB5
    have ncat : ¬ 9223372036854775807 < S.size + 1 := by omega
    go_wp2_with (refine rec_fresh Rc.zero nil_ nil_ (Rc.zero.cs nil_ nil_) rfl (im_none w 0 Rc.zero.im) (al_none w 0 Rc.zero.al) ⟨rfl, rfl⟩ _ _ rfl rfl rfl ?_; generalize (w5.alloc (.cells (Rc.zero.cs nil_ nil_) 29)) = w6 at K6 K76 B6 BB6 ⊢)
    refine (ldecode_any _ w6 ?hs).mono ?_
    case hs =>
      rw [ByteArray.size_append]
      exact Nat.le_trans (Nat.add_le_add_left (show _ ≤ 1 by decide) _) (by unfold maxLen; omega)
    rintro e w7 (⟨_, _, hyes, _⟩ | ⟨_, rfl, hb⟩)
    · exact absurd hyes (LO.out _ (by decide))
    have K7 := Lib.hid (K6.out.kept hb); have K77 := Lib.hid (K76.out.kept hb); have B7 := Lib.hid (below_then B6.out hb B6.out.size); have BB7 := Lib.hid (below_then BB6.out hb BB6.out.size)
    clear hb K6 K76 B6 BB6 LO
    have K8 := Lib.hid (K7.out.alloc (.cells (Rc.zero.cs nil_ nil_) 29)); have K78 := Lib.hid (K77.out.alloc (.cells (Rc.zero.cs nil_ nil_) 29)); have B8 := Lib.hid (B7.out.alloc B7.out.size (.cells (Rc.zero.cs nil_ nil_) 29)); have BB8 := Lib.hid (BB7.out.alloc BB7.out.size (.cells (Rc.zero.cs nil_ nil_) 29))
    clear K7 K77 B7 BB7
    have T1 : True := trivial
    go_wp2_with (first
      | (refine rec_fresh Rc.zero nil_ nil_ (Rc.zero.cs nil_ nil_) rfl (im_none w 0 Rc.zero.im) (al_none w 0 Rc.zero.al) ⟨rfl, rfl⟩ _ _ rfl rfl rfl ?_; generalize (w7.alloc (.cells (Rc.zero.cs nil_ nil_) 29)) = w8 at K8 K78 B8 BB8 ⊢)
      | (have _t := T1; refine wpList_load_part 29 _ rfl (by first | rfl | kernel_rfl) w3.heap.size 0 c7 rfl (by have := K78.out; rw [← HC7.out] at this ⊢; exact rc_load this) ?_; clear T1 _t; have T2 : True := trivial)
      | (have _t := T2; refine wpList_load_part 29 _ rfl (by first | rfl | kernel_rfl) w.heap.size 0 cs rfl (by have := K8.out; rw [← HCS.out] at this ⊢; exact rc_load this) ?_; clear T2 _t))
    rw [← HC7.out, ← HCS.out]
    refine (same_any (Rc.of S) r vi7 vi vl7 vl w8 ((IM7.out.below BB8.out (Nat.le_refl _)).mono BB8.out.size) ((HI.out.below B8.out (Nat.le_refl _)).mono B8.out.size) ((AL7.out.below BB8.out (Nat.le_refl _)).mono BB8.out.size) ((HL.out.below B8.out (Nat.le_refl _)).mono B8.out.size)).mono ?_
    rw [HC7.out, HCS.out]
    rintro e w9 ⟨⟨rfl, _⟩ | ⟨_, hno⟩, hb⟩
    rotate_left
    · exact absurd DOK.out.2 hno
    have B9 := Lib.hid (below_then B8.out hb B8.out.size)
    clear hb K8 K78 B8 BB8 IM7 AL7 HI HL
    go_wp2_with fail
    refine (ldecode_any s w9 HS.out).mono ?_
    rintro e w10 (⟨vi13, vl13, dok, rfl, im13, al13, hb⟩ | ⟨hno, rfl, hb⟩)
    · have DK := Lib.hid dok
      have B10 := Lib.hid (below_then B9.out hb B9.out.size)
      have IM13 := Lib.hid im13; have AL13 := Lib.hid al13
      clear hb im13 al13 dok
      generalize hc13 : (Rc.of s).cs vi13 vl13 = c13 at *
      have HC13 := Lib.hid hc13
      clear hc13
      have K13 := Lib.hid (Bk.new w10 29 c13)
      have B11 := Lib.hid (B10.out.alloc B10.out.size (.cells c13 29))
      have BB11 := Lib.hid ((Below.refl w10.heap.size w10).alloc (Nat.le_refl _) (.cells c13 29))
      have T9 : True := trivial
      go_wp2_with (first
        | (refine rec_fresh (Rc.of s) vi13 vl13 c13 HC13.out IM13.out AL13.out ⟨rfl, rfl⟩ _ _ rfl rfl rfl ?_; generalize (w10.alloc (.cells c13 29)) = w11 at K13 B11 BB11 ⊢)
        | (have _t := T9; refine wpList_load_part 29 _ rfl (by first | rfl | kernel_rfl) w10.heap.size 0 c13 rfl (by have := K13.out; rw [← HC13.out] at this ⊢; exact rc_load this) ?_; clear T9 _t))
      rw [← HC13.out]
      refine (lencode_any (Rc.of s) _ _ w11 ((IM13.out.below BB11.out (Nat.le_refl _)).mono BB11.out.size) ((AL13.out.below BB11.out (Nat.le_refl _)).mono BB11.out.size)).mono ?_
      rw [HC13.out]
      rintro e w12 ⟨⟨rfl, _⟩ | ⟨_, hno⟩, hb⟩
      rotate_left
      · exact absurd DK.out.2.2 hno
      have B12 := Lib.hid (below_then B11.out hb B11.out.size)
      rw [dec_fwd DK.out]
      have hs2 := str_beq_refl s
      clear hb
      go_wp2
      go_ret
      exact ⟨rfl, B12.out⟩
    · have B10 := Lib.hid (below_then B9.out hb B9.out.size)
      have K13 := Lib.hid (Bk.new w10 29 (Rc.zero.cs nil_ nil_))
      have B11 := Lib.hid (B10.out.alloc B10.out.size (.cells (Rc.zero.cs nil_ nil_) 29))
      clear hb hno
      have T9 : True := trivial
      go_wp2_with (first
        | (refine rec_fresh Rc.zero nil_ nil_ (Rc.zero.cs nil_ nil_) rfl (im_none w 0 Rc.zero.im) (al_none w 0 Rc.zero.al) ⟨rfl, rfl⟩ _ _ rfl rfl rfl ?_; generalize (w10.alloc (.cells (Rc.zero.cs nil_ nil_) 29)) = w11 at K13 B11 ⊢)
        | (have _t := T9; refine wpList_load_part 29 _ rfl (by first | rfl | kernel_rfl) w10.heap.size 0 (Rc.zero.cs nil_ nil_) rfl (rc_load K13.out) ?_; clear T9 _t))
      refine (same_any Rc.zero Rc.zero nil_ nil_ nil_ nil_ w11 (im_none _ _ _) (im_none _ _ _) (al_none _ _ _) (al_none _ _ _)).mono ?_
      rintro e w12 ⟨⟨rfl, _⟩ | ⟨_, hno⟩, hb⟩
      rotate_left
      · exact absurd same_zero hno
      have B12 := Lib.hid (below_then B11.out hb B11.out.size)
      clear hb
      go_wp2
      go_ret
      exact ⟨rfl, B12.out⟩
  · clear HR hno
    go_wp2_with fail
    refine (ldecode_any s w2 HS.out).mono ?_
    rintro e w10 (⟨vi13, vl13, dok, rfl, im13, al13, hb⟩ | ⟨hno, rfl, hb⟩)
    · have DK := Lib.hid dok
      have B10 := Lib.hid (below_then B2.out hb B2.out.size)
      have IM13 := Lib.hid im13; have AL13 := Lib.hid al13
      clear hb im13 al13 dok
      generalize hc13 : (Rc.of s).cs vi13 vl13 = c13 at *
      have HC13 := Lib.hid hc13
      clear hc13
      have K13 := Lib.hid (Bk.new w10 29 c13)
      have B11 := Lib.hid (B10.out.alloc B10.out.size (.cells c13 29))
      have BB11 := Lib.hid ((Below.refl w10.heap.size w10).alloc (Nat.le_refl _) (.cells c13 29))
      have T9 : True := trivial
      go_wp2_with (first
        | (refine rec_fresh (Rc.of s) vi13 vl13 c13 HC13.out IM13.out AL13.out ⟨rfl, rfl⟩ _ _ rfl rfl rfl ?_; generalize (w10.alloc (.cells c13 29)) = w11 at K13 B11 BB11 ⊢)
        | (have _t := T9; refine wpList_load_part 29 _ rfl (by first | rfl | kernel_rfl) w10.heap.size 0 c13 rfl (by have := K13.out; rw [← HC13.out] at this ⊢; exact rc_load this) ?_; clear T9 _t))
      rw [← HC13.out]
      refine (lencode_any (Rc.of s) _ _ w11 ((IM13.out.below BB11.out (Nat.le_refl _)).mono BB11.out.size) ((AL13.out.below BB11.out (Nat.le_refl _)).mono BB11.out.size)).mono ?_
      rw [HC13.out]
      rintro e w12 ⟨⟨rfl, _⟩ | ⟨_, hno⟩, hb⟩
      rotate_left
      · exact absurd DK.out.2.2 hno
      have B12 := Lib.hid (below_then B11.out hb B11.out.size)
      rw [dec_fwd DK.out]
      have hs2 := str_beq_refl s
      clear hb
      go_wp2
      go_ret
      exact ⟨rfl, B12.out⟩
    · have B10 := Lib.hid (below_then B2.out hb B2.out.size)
      have K13 := Lib.hid (Bk.new w10 29 (Rc.zero.cs nil_ nil_))
      have B11 := Lib.hid (B10.out.alloc B10.out.size (.cells (Rc.zero.cs nil_ nil_) 29))
      clear hb hno
      have T9 : True := trivial
      go_wp2_with (first
        | (refine rec_fresh Rc.zero nil_ nil_ (Rc.zero.cs nil_ nil_) rfl (im_none w 0 Rc.zero.im) (al_none w 0 Rc.zero.al) ⟨rfl, rfl⟩ _ _ rfl rfl rfl ?_; generalize (w10.alloc (.cells (Rc.zero.cs nil_ nil_) 29)) = w11 at K13 B11 ⊢)
        | (have _t := T9; refine wpList_load_part 29 _ rfl (by first | rfl | kernel_rfl) w10.heap.size 0 (Rc.zero.cs nil_ nil_) rfl (rc_load K13.out) ?_; clear T9 _t))
      refine (same_any Rc.zero Rc.zero nil_ nil_ nil_ nil_ w11 (im_none _ _ _) (im_none _ _ _) (al_none _ _ _) (al_none _ _ _)).mono ?_
      rintro e w12 ⟨⟨rfl, _⟩ | ⟨_, hno⟩, hb⟩
      rotate_left
      · exact absurd same_zero hno
      have B12 := Lib.hid (below_then B11.out hb B11.out.size)
      clear hb
      go_wp2
      go_ret
      exact ⟨rfl, B12.out⟩
end Go.Proofs.Ytggabnmfjooejaa
