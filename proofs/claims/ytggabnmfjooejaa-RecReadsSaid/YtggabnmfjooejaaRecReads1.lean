/- RecReads, for bytes that came in. -/
import Derived.Test.YtggabnmfjooejaaRecRDec
set_option linter.unusedVariables false
set_option linter.unusedSimpArgs false
namespace Go.Proofs.Ytggabnmfjooejaa
open Go.RowKit Go.BigFrame

theorem imB_symm {a b : Im} (h : imB a b = true) : imB b a = true := by
  rw [imB_iff] at h ⊢
  obtain ⟨h1, h2⟩ := h
  obtain ⟨g1, g2, g3, g4, g5⟩ := (pgB_iff _ _).1 h2
  exact ⟨h1.symm, (pgB_iff _ _).2 ⟨g1.symm, g2.symm, g3.symm, g4.symm, fun i hi => (g5 i hi).symm⟩⟩
theorem same_symm {a b : Rc} (h : a.same b) : b.same a := by
  obtain ⟨⟨h1, h2, h3, h4, h5, h6, h7, h8⟩, hi, hl⟩ := h
  refine ⟨⟨h1.symm, h2.symm, h3.symm, h4.symm, h5.symm, h6.symm, h7.symm, h8.symm⟩, fun i hh => imB_symm (hi i (by omega)), fun i hh => ?_⟩
  have := hl i (by omega)
  rw [alB_iff] at this ⊢
  exact this.symm

set_option maxRecDepth 100000 in
set_option maxHeartbeats 2500000 in
theorem walk_RecReads (s : ByteArray) (w : World) (hs : s.size ≤ maxLen) :
    Calls Try.prog 4 #[.string s] w fun e w' => e = .returned (.bool true) ∧ Below w.heap.size w w' := by
  have CA := Lib.hid awake_any
  have HS := Lib.hid hs
  clear hs
  go_enter Try.func4, Try.ntmps4
  go_wp2_with fail
  refine (CA.out _).mono ?_
  rintro e w1 ⟨rfl, hb⟩
  have B1 := Lib.hid hb
  clear hb CA
  go_wp2_with fail
  refine (ldecode_any s w1 HS.out).mono ?_
  rintro e w2 (⟨vi, vl, dok, rfl, im, al, hb⟩ | ⟨hno, rfl, hb⟩)
  · have B2 := Lib.hid (below_then B1.out hb B1.out.size)
    have IM := Lib.hid im; have AL := Lib.hid al; have DK := Lib.hid dok
    clear hb im al dok B1
    generalize hc : (Rc.of s).cs vi vl = c at *
    have HC := Lib.hid hc
    clear hc
    have K3 := Lib.hid (Bk.new w2 29 c)
    have B3 := Lib.hid (B2.out.alloc B2.out.size (.cells c 29)); have BB3 := Lib.hid ((Below.refl w2.heap.size w2).alloc (Nat.le_refl _) (.cells c 29))
    go_wp2_with (refine rec_fresh (Rc.of s) vi vl c HC.out IM.out AL.out ⟨rfl, rfl⟩ _ _ rfl rfl rfl ?_; generalize (w2.alloc (.cells c 29)) = w3 at K3 B3 BB3 ⊢)
    refine (rldecode_any s w3 HS.out).mono ?_
    rintro e w4 (⟨ui, ul, _, rfl, im, al, hb⟩ | ⟨hno, _, _⟩)
    rotate_left
    · exact absurd DK.out hno
    have B4 := Lib.hid (below_then B3.out hb B3.out.size); have BB4 := Lib.hid (below_then BB3.out hb BB3.out.size); have K4 := Lib.hid (K3.out.kept hb)
    have IN := Lib.hid im; have AN := Lib.hid al
    clear hb im al B3 BB3 K3
    generalize hd : (Rc.sf s).cs ui ul = d at *
    have HD := Lib.hid hd
    clear hd
    have K5 := Lib.hid (K4.out.alloc (.cells d 29)); have J5 := Lib.hid (Bk.new w4 29 d)
    have B5 := Lib.hid (B4.out.alloc B4.out.size (.cells d 29)); have BB5 := Lib.hid (BB4.out.alloc BB4.out.size (.cells d 29)); have CC5 := Lib.hid ((Below.refl w4.heap.size w4).alloc (Nat.le_refl _) (.cells d 29))
    clear B4 BB4 K4
    have T1 : True := trivial
    go_wp2_with (first
      | (refine rec_fresh (Rc.sf s) ui ul d HD.out IN.out AN.out ⟨rfl, rfl⟩ _ _ rfl rfl rfl ?_; generalize (w4.alloc (.cells d 29)) = w5 at K5 J5 B5 BB5 CC5 ⊢)
      | (have _t := T1; refine wpList_load_part 29 _ rfl (by first | rfl | kernel_rfl) w2.heap.size 0 c rfl (by have := K5.out; rw [← HC.out] at this ⊢; exact rc_load this) ?_; clear T1 _t; have T2 : True := trivial)
      | (have _t := T2; refine wpList_load_part 29 _ rfl (by first | rfl | kernel_rfl) w4.heap.size 0 d rfl (by have := J5.out; rw [← HD.out] at this ⊢; exact rc_load this) ?_; clear T2 _t))
    rw [← HC.out, ← HD.out]
    refine (same_any (Rc.of s) (Rc.sf s) vi ui vl ul w5 ((IM.out.below BB5.out (Nat.le_refl _)).mono BB5.out.size) ((IN.out.below CC5.out (Nat.le_refl _)).mono CC5.out.size) ((AL.out.below BB5.out (Nat.le_refl _)).mono BB5.out.size) ((AN.out.below CC5.out (Nat.le_refl _)).mono CC5.out.size)).mono ?_
    rw [HC.out, HD.out]
    rintro e w6 ⟨⟨rfl, _⟩ | ⟨_, hno⟩, hb⟩
    rotate_left
    · exact absurd (same_symm (sf_same s ((sf_ok s).2 DK.out.2.2))) hno
    have B6 := Lib.hid (below_then B5.out hb B5.out.size)
    clear hb
    go_wp2
    go_ret
    exact ⟨rfl, B6.out⟩
  · have B2 := Lib.hid (below_then B1.out hb B1.out.size)
    have NO := Lib.hid hno
    clear hb hno B1
    have K3 := Lib.hid (Bk.new w2 29 (Rc.zero.cs nil_ nil_))
    have B3 := Lib.hid (B2.out.alloc B2.out.size (.cells (Rc.zero.cs nil_ nil_) 29))
    go_wp2_with (refine rec_fresh Rc.zero nil_ nil_ (Rc.zero.cs nil_ nil_) rfl (im_none w 0 Rc.zero.im) (al_none w 0 Rc.zero.al) ⟨rfl, rfl⟩ _ _ rfl rfl rfl ?_; generalize (w2.alloc (.cells (Rc.zero.cs nil_ nil_) 29)) = w3 at K3 B3 ⊢)
    refine (rldecode_any s w3 HS.out).mono ?_
    rintro e w4 (⟨_, _, dok, _⟩ | ⟨_, rfl, hb⟩)
    · exact absurd dok NO.out
    have B4 := Lib.hid (below_then B3.out hb B3.out.size); have K4 := Lib.hid (K3.out.kept hb)
    clear hb B3 K3
    have K5 := Lib.hid (K4.out.alloc (.cells (Rc.zero.cs nil_ nil_) 29)); have J5 := Lib.hid (Bk.new w4 29 (Rc.zero.cs nil_ nil_))
    have B5 := Lib.hid (B4.out.alloc B4.out.size (.cells (Rc.zero.cs nil_ nil_) 29))
    clear B4 K4
    have T1 : True := trivial
    go_wp2_with (first
      | (refine rec_fresh Rc.zero nil_ nil_ (Rc.zero.cs nil_ nil_) rfl (im_none w 0 Rc.zero.im) (al_none w 0 Rc.zero.al) ⟨rfl, rfl⟩ _ _ rfl rfl rfl ?_; generalize (w4.alloc (.cells (Rc.zero.cs nil_ nil_) 29)) = w5 at K5 J5 B5 ⊢)
      | (have _t := T1; refine wpList_load_part 29 _ rfl (by first | rfl | kernel_rfl) w2.heap.size 0 (Rc.zero.cs nil_ nil_) rfl (rc_load K5.out) ?_; clear T1 _t; have T2 : True := trivial)
      | (have _t := T2; refine wpList_load_part 29 _ rfl (by first | rfl | kernel_rfl) w4.heap.size 0 (Rc.zero.cs nil_ nil_) rfl (rc_load J5.out) ?_; clear T2 _t))
    refine (same_any Rc.zero Rc.zero nil_ nil_ nil_ nil_ w5 (im_none _ _ _) (im_none _ _ _) (al_none _ _ _) (al_none _ _ _)).mono ?_
    rintro e w6 ⟨⟨rfl, _⟩ | ⟨_, hno⟩, hb⟩
    rotate_left
    · exact absurd same_zero hno
    have B6 := Lib.hid (below_then B5.out hb B5.out.size)
    clear hb
    go_wp2
    go_ret
    exact ⟨rfl, B6.out⟩
end Go.Proofs.Ytggabnmfjooejaa
