/- RecApart, for two records that came in. -/
import Derived.Test.YtggabnmfjooejaaRecAwake
import Derived.Test.YtggabnmfjooejaaRecRead
import Derived.Test.YtggabnmfjooejaaRecApartPlain
set_option linter.unusedVariables false
set_option linter.unusedSimpArgs false
namespace Go.Proofs.Ytggabnmfjooejaa
open Go.RowKit Go.BigFrame

theorem str_beq {a b : ByteArray} : (a.toList == b.toList) = decide (a = b) := by
  by_cases h : a = b
  · subst h; simp
  · have := str_ne h
    rw [this, decide_eq_false h]

set_option maxRecDepth 100000 in
set_option maxHeartbeats 4000000 in
theorem walk_RecApart (v : Value) (q : Rcv) (v' : Value) (q' : Rcv) (w : World) (h : IsRec w v q) (h' : IsRec w v' q') :
    Calls Try.prog 7 #[v, v'] w fun e w' => e = .returned (.bool true) ∧ Below w.heap.size w w' := by
  obtain ⟨r, vi, vl⟩ := q
  obtain ⟨hv, hI, hL, hk, hd, hbd, hbu, hbi, hbl⟩ := h
  obtain ⟨s, ui, ul⟩ := q'
  obtain ⟨hv', gI, gL, gk, gd, gbd, gbu, gbi, gbl⟩ := h'
  dsimp only at hv hI hL hk hd hbd hbu hv' gI gL gk gd gbd gbu
  clear hbi hbl hbd hbu gbi gbl gbd gbu hk hd gk gd
  subst hv hv'
  have CA := Lib.hid awake_any
  have B0 := Lib.hid (((Below.refl w.heap.size w).alloc (Nat.le_refl _) (.cells (r.cs vi vl) 29)).alloc (by simp) (.cells (s.cs ui ul) 29))
  have K0 := Lib.hid ((Bk.new w 29 (r.cs vi vl)).alloc (.cells (s.cs ui ul) 29))
  have J0 := Lib.hid (Bk.new2 w (.cells (r.cs vi vl) 29) 29 (s.cs ui ul))
  have HI := Lib.hid hI; have HL := Lib.hid hL; have GI := Lib.hid gI; have GL := Lib.hid gL
  have INJ := Lib.hid (fun (h1 : r.ok) (h2 : s.ok) => bytes_inj h1 h2)
  clear hI hL gI gL
  generalize hcs : r.cs vi vl = cs at *
  have HCS := Lib.hid hcs
  generalize hds : s.cs ui ul = ds at *
  have HDS := Lib.hid hds
  clear hcs hds
  go_enter Try.func7, Try.ntmps7
  go_wp2_with fail
  refine (CA.out _).mono ?_
  rintro e w1 ⟨rfl, hb⟩
  have K1 := Lib.hid (K0.out.kept hb)
  have J1 := Lib.hid (J0.out.kept hb)
  have B1 := Lib.hid (below_then B0.out hb B0.out.size)
  clear hb K0 J0 B0 CA
  go_wp2_with (refine wpList_load_part 29 _ rfl (by first | rfl | kernel_rfl) w.heap.size 0 cs rfl (by have := K1.out; rw [← HCS.out] at this ⊢; exact rc_load this) ?_)
  rw [← HCS.out]
  refine (lencode_any r _ _ w1 ((HI.out.below B1.out (Nat.le_refl _)).mono B1.out.size) ((HL.out.below B1.out (Nat.le_refl _)).mono B1.out.size)).mono ?_
  rw [HCS.out]
  rintro e w2 ⟨hr, hb⟩
  have HR := Lib.hid hr
  have K2 := Lib.hid (K1.out.kept hb)
  have J2 := Lib.hid (J1.out.kept hb)
  have B2 := Lib.hid (below_then B1.out hb B1.out.size)
  clear hr hb K1 J1 B1
  rcases HR.out with ⟨rfl, hok⟩ | ⟨rfl, hno⟩
  · have OK := Lib.hid hok
    clear hok HR
    go_wp2_with (refine wpList_load_part 29 _ rfl (by first | rfl | kernel_rfl) (w.heap.size + 1) 0 ds rfl (by have := J2.out; rw [← HDS.out] at this ⊢; exact rc_load this) ?_)
    rw [← HDS.out]
    refine (lencode_any s _ _ w2 ((GI.out.below B2.out (Nat.le_refl _)).mono B2.out.size) ((GL.out.below B2.out (Nat.le_refl _)).mono B2.out.size)).mono ?_
    rw [HDS.out]
    rintro e w3 ⟨hr, hb⟩
    have HR := Lib.hid hr
    have K3 := Lib.hid (K2.out.kept hb)
    have J3 := Lib.hid (J2.out.kept hb)
    have B3 := Lib.hid (below_then B2.out hb B2.out.size)
    clear hr hb K2 J2 B2
    rcases HR.out with ⟨rfl, hok⟩ | ⟨rfl, hno⟩
    · have IFF := Lib.hid (INJ.out OK.out hok)
      clear hok HR OK
      have hsb := str_beq (a := r.bytes) (b := s.bytes)
      generalize r.bytes = S at *
      generalize s.bytes = T at *
      have T1 : True := trivial
      by_cases hst : S = T
      · have HST := Lib.hid hst
        rw [decide_eq_true hst] at hsb
        clear hst
        go_wp2_with (first
          | (have _t := T1; refine wpList_load_part 29 _ rfl (by first | rfl | kernel_rfl) w.heap.size 0 cs rfl (by have := K3.out; rw [← HCS.out] at this ⊢; exact rc_load this) ?_; clear T1 _t)
          | (refine wpList_load_part 29 _ rfl (by first | rfl | kernel_rfl) (w.heap.size + 1) 0 ds rfl (by have := J3.out; rw [← HDS.out] at this ⊢; exact rc_load this) ?_))
        rw [← HCS.out, ← HDS.out]
        refine (same_any r s _ _ _ _ w3 ((HI.out.below B3.out (Nat.le_refl _)).mono B3.out.size) ((GI.out.below B3.out (Nat.le_refl _)).mono B3.out.size) ((HL.out.below B3.out (Nat.le_refl _)).mono B3.out.size) ((GL.out.below B3.out (Nat.le_refl _)).mono B3.out.size)).mono ?_
        rw [HCS.out, HDS.out]
        rintro e w4 ⟨⟨rfl, _⟩ | ⟨_, hno⟩, hb⟩
        · have B4 := Lib.hid (below_then B3.out hb B3.out.size)
          clear hb
          go_wp2
          go_ret
          exact ⟨rfl, B4.out⟩
        · exact absurd (IFF.out.1 HST.out) hno
      · have HST := Lib.hid hst
        rw [decide_eq_false hst] at hsb
        clear hst
        go_wp2_with (first
          | (have _t := T1; refine wpList_load_part 29 _ rfl (by first | rfl | kernel_rfl) w.heap.size 0 cs rfl (by have := K3.out; rw [← HCS.out] at this ⊢; exact rc_load this) ?_; clear T1 _t)
          | (refine wpList_load_part 29 _ rfl (by first | rfl | kernel_rfl) (w.heap.size + 1) 0 ds rfl (by have := J3.out; rw [← HDS.out] at this ⊢; exact rc_load this) ?_))
        rw [← HCS.out, ← HDS.out]
        refine (same_any r s _ _ _ _ w3 ((HI.out.below B3.out (Nat.le_refl _)).mono B3.out.size) ((GI.out.below B3.out (Nat.le_refl _)).mono B3.out.size) ((HL.out.below B3.out (Nat.le_refl _)).mono B3.out.size) ((GL.out.below B3.out (Nat.le_refl _)).mono B3.out.size)).mono ?_
        rw [HCS.out, HDS.out]
        rintro e w4 ⟨⟨_, hyes⟩ | ⟨rfl, _⟩, hb⟩
        · exact absurd (IFF.out.2 hyes) HST.out
        · have B4 := Lib.hid (below_then B3.out hb B3.out.size)
          clear hb
          go_wp2
          go_ret
          exact ⟨rfl, B4.out⟩
    · clear hno HR
      go_wp2
      go_ret
      exact ⟨rfl, B3.out⟩
  · clear hno HR
    go_wp2_with (refine wpList_load_part 29 _ rfl (by first | rfl | kernel_rfl) (w.heap.size + 1) 0 ds rfl (by have := J2.out; rw [← HDS.out] at this ⊢; exact rc_load this) ?_)
    rw [← HDS.out]
    refine (lencode_any s _ _ w2 ((GI.out.below B2.out (Nat.le_refl _)).mono B2.out.size) ((GL.out.below B2.out (Nat.le_refl _)).mono B2.out.size)).mono ?_
    rw [HDS.out]
    rintro e w3 ⟨hr, hb⟩
    have HR := Lib.hid hr
    have B3 := Lib.hid (below_then B2.out hb B2.out.size)
    clear hr hb
    rcases HR.out with ⟨rfl, _⟩ | ⟨rfl, _⟩
    · go_wp2
      go_ret
      exact ⟨rfl, B3.out⟩
    · go_wp2
      go_ret
      exact ⟨rfl, B3.out⟩
end Go.Proofs.Ytggabnmfjooejaa
