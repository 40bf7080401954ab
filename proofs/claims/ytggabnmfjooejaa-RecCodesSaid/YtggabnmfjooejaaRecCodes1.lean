/- RecCodes, for a record that came in. -/
import Derived.Test.YtggabnmfjooejaaRecAwake
import Derived.Test.YtggabnmfjooejaaRecRead
import Derived.Test.YtggabnmfjooejaaRecREnc
set_option linter.unusedVariables false
set_option linter.unusedSimpArgs false
namespace Go.Proofs.Ytggabnmfjooejaa
open Go.RowKit Go.BigFrame

theorem str_beq_self (a : ByteArray) : (a.toList == a.toList) = true := by simp
set_option maxRecDepth 100000 in
set_option maxHeartbeats 4000000 in
theorem walk_RecCodes (v : Value) (q : Rcv) (w : World) (h : IsRec w v q) :
    Calls Try.prog 3 #[v] w fun e w' => e = .returned (.bool true) ∧ Below w.heap.size w w' := by
  obtain ⟨r, vi, vl⟩ := q
  obtain ⟨hv, hI, hL, hk, hd, hbd, hbu, hbi, hbl⟩ := h
  dsimp only at hv hI hL hk hd hbd hbu
  clear hbi hbl hbd hbu hk hd
  subst hv
  have CA := Lib.hid awake_any
  have B0 := Lib.hid ((Below.refl w.heap.size w).alloc (Nat.le_refl _) (.cells (r.cs vi vl) 29))
  have K0 := Lib.hid (Bk.new w 29 (r.cs vi vl))
  have HI := Lib.hid hI; have HL := Lib.hid hL
  have CK := Lib.hid (fun (wx : World) (hb : Below w.heap.size w wx) => lcheck_any r vi vl wx ((hI.below hb (Nat.le_refl _)).mono hb.size) ((hL.below hb (Nat.le_refl _)).mono hb.size))
  have CG := Lib.hid (fun (wx : World) (hb : Below w.heap.size w wx) => rright6_any r vi vl wx ((hI.below hb (Nat.le_refl _)).mono hb.size) ((hL.below hb (Nat.le_refl _)).mono hb.size))
  clear hI hL
  generalize hcs : r.cs vi vl = cs at *
  have HCS := Lib.hid hcs
  clear hcs
  go_enter Try.func3, Try.ntmps3
  go_wp2_with fail
  refine (CA.out _).mono ?_
  rintro e w1 ⟨rfl, hb⟩
  have K1 := Lib.hid (K0.out.kept hb)
  have B1 := Lib.hid (below_then B0.out hb B0.out.size)
  clear hb K0 B0 CA
  go_wp2_with (refine wpList_load_part 29 _ rfl (by first | rfl | kernel_rfl) w.heap.size 0 cs rfl (by have := K1.out; rw [← HCS.out] at this ⊢; exact rc_load this) ?_)
  rw [← HCS.out]
  refine (lencode_any r _ _ w1 ((HI.out.below B1.out (Nat.le_refl _)).mono B1.out.size) ((HL.out.below B1.out (Nat.le_refl _)).mono B1.out.size)).mono ?_
  rw [HCS.out]
  rintro e w2 ⟨hr, hb⟩
  have HR := Lib.hid hr
  have K2 := Lib.hid (K1.out.kept hb)
  have B2 := Lib.hid (below_then B1.out hb B1.out.size)
  clear hr hb K1 B1
  by_cases hok : r.ok
  · rcases HR.out with ⟨rfl, _⟩ | ⟨_, hno⟩
    rotate_left
    · exact absurd hok hno
    have OK := Lib.hid hok
    clear hok HR
    go_wp2_with (refine wpList_load_part 29 _ rfl (by first | rfl | kernel_rfl) w.heap.size 0 cs rfl (by have := K2.out; rw [← HCS.out] at this ⊢; exact rc_load this) ?_)
    rw [← HCS.out]
    refine (rencode6_any r _ _ w2 ((HI.out.below B2.out (Nat.le_refl _)).mono B2.out.size) ((HL.out.below B2.out (Nat.le_refl _)).mono B2.out.size)).mono ?_
    rw [HCS.out]
    rintro e w3 ⟨hr, hb⟩
    have HR := Lib.hid hr
    have K3 := Lib.hid (K2.out.kept hb)
    have B3 := Lib.hid (below_then B2.out hb B2.out.size)
    clear hr hb K2 B2
    rcases HR.out with ⟨rfl, _⟩ | ⟨_, hno⟩
    rotate_left
    · exact absurd OK.out hno
    have CC := Lib.hid (fun (x : Kp w3) => show Calls Try.prog 11 #[.agg cs] x.1 fun e w' => e = .returned (.int .i64 0) ∧ Below x.1.heap.size x.1 w' from (CK.out x.1 (B3.out.trans (x.2.mono B3.out.size))).mono fun e w' ⟨he, hb⟩ => ⟨by rcases he with ⟨he, _⟩ | ⟨_, hn⟩; exact he; exact absurd OK.out hn, hb⟩)
    have CD := Lib.hid (fun (x : Kp w3) => show Calls Try.prog 12 #[.agg cs] x.1 fun e w' => e = .returned (.bool true) ∧ Below x.1.heap.size x.1 w' from (CG.out x.1 (B3.out.trans (x.2.mono B3.out.size))).mono fun e w' ⟨he, hb⟩ => ⟨by rcases he with ⟨he, _⟩ | ⟨_, hn⟩; exact he; exact absurd OK.out hn, hb⟩)
    have LD := Lib.hid (fun (x : Kp w3) => show (loadVar 29 ⟨w.heap.size, 0, none⟩).run Try.prog x.1 = .ok (.agg cs) x.1 from by have := x.bk K3.out; rw [← HCS.out] at this ⊢; exact rc_load this)
    clear HR CK CG HI HL OK
    have hs := str_beq_self r.bytes
    generalize r.bytes = S at *
    go_wp2_with fail
    refine wp_region_kept (by kernel_rfl) (by kernel_rfl) ?_
    repeat (first
      | go_big_quiet_skip
      | (go_big_quiet_want; refine q_load 29 _ rfl ⟨w.heap.size, 0, none⟩ (.agg cs) rfl LD.out ?_; simp only [Act.put, List.setIfInBounds_toArray, List.set_cons_succ, List.set_cons_zero]; go_big_quiet_on)
      | (go_big_quiet_want; go_big_quiet_op; first | go_big_quiet_on | go_big_quiet_call (first | exact kp_call (CC.out _) | exact kp_call (CD.out _))))
    refine wpQuiet_nil ?_
    rintro _ ⟨x, rfl⟩
    have B9 := Lib.hid (B3.out.trans (x.2.mono B3.out.size))
    go_wp2
    go_ret
    exact ⟨rfl, B9.out⟩
  · rcases HR.out with ⟨_, hyes⟩ | ⟨rfl, _⟩
    · exact absurd hyes hok
    have OK := Lib.hid hok
    clear hok HR
    go_wp2_with (refine wpList_load_part 29 _ rfl (by first | rfl | kernel_rfl) w.heap.size 0 cs rfl (by have := K2.out; rw [← HCS.out] at this ⊢; exact rc_load this) ?_)
    rw [← HCS.out]
    refine (rencode6_any r _ _ w2 ((HI.out.below B2.out (Nat.le_refl _)).mono B2.out.size) ((HL.out.below B2.out (Nat.le_refl _)).mono B2.out.size)).mono ?_
    rw [HCS.out]
    rintro e w3 ⟨hr, hb⟩
    have HR := Lib.hid hr
    have K3 := Lib.hid (K2.out.kept hb)
    have B3 := Lib.hid (below_then B2.out hb B2.out.size)
    clear hr hb K2 B2
    rcases HR.out with ⟨_, hyes⟩ | ⟨rfl, _⟩
    · exact absurd hyes OK.out
    have CC := Lib.hid (fun (x : Kp w3) => show Calls Try.prog 11 #[.agg cs] x.1 fun e w' => e = .returned (.int .i64 1) ∧ Below x.1.heap.size x.1 w' from (CK.out x.1 (B3.out.trans (x.2.mono B3.out.size))).mono fun e w' ⟨he, hb⟩ => ⟨by rcases he with ⟨_, hn⟩ | ⟨he, _⟩; exact absurd hn OK.out; exact he, hb⟩)
    have CD := Lib.hid (fun (x : Kp w3) => show Calls Try.prog 12 #[.agg cs] x.1 fun e w' => e = .returned (.bool false) ∧ Below x.1.heap.size x.1 w' from (CG.out x.1 (B3.out.trans (x.2.mono B3.out.size))).mono fun e w' ⟨he, hb⟩ => ⟨by rcases he with ⟨_, hn⟩ | ⟨he, _⟩; exact absurd hn OK.out; exact he, hb⟩)
    have LD := Lib.hid (fun (x : Kp w3) => show (loadVar 29 ⟨w.heap.size, 0, none⟩).run Try.prog x.1 = .ok (.agg cs) x.1 from by have := x.bk K3.out; rw [← HCS.out] at this ⊢; exact rc_load this)
    clear HR CK CG HI HL OK
    go_wp2_with fail
    refine wp_region_kept (by kernel_rfl) (by kernel_rfl) ?_
    repeat (first
      | go_big_quiet_skip
      | (go_big_quiet_want; refine q_load 29 _ rfl ⟨w.heap.size, 0, none⟩ (.agg cs) rfl LD.out ?_; simp only [Act.put, List.setIfInBounds_toArray, List.set_cons_succ, List.set_cons_zero]; go_big_quiet_on)
      | (go_big_quiet_want; go_big_quiet_op; first | go_big_quiet_on | go_big_quiet_call (first | exact kp_call (CC.out _) | exact kp_call (CD.out _))))
    refine wpQuiet_nil ?_
    rintro _ ⟨x, rfl⟩
    have B9 := Lib.hid (B3.out.trans (x.2.mono B3.out.size))
    go_wp2
    go_ret
    exact ⟨rfl, B9.out⟩
end Go.Proofs.Ytggabnmfjooejaa
