/- Layer 12: Get and Put, refused. -/
import Derived.Test.YtgafajbdmegfgaaPolNew
set_option linter.unusedVariables false
set_option linter.unusedSimpArgs false
namespace Go.Proofs.Ytgafajbdmegfgaa
open Go.RowKit

theorem below_grow1 {a b c : World} {r : Nat} (h : Below a.heap.size a b) (hg : b.grownBy c (some r)) (hr : a.heap.size ≤ r) : Below a.heap.size a c :=
  h.trans ((Out.of_grown hg (p := fun k => a.heap.size ≤ k) (fun k hk _ => by injection hk with hk; omega)).below h.size (fun k hk => hk))
set_option maxRecDepth 100000 in
set_option maxHeartbeats 4000000 in
theorem pget_bad {w : World} {B : Nat} {J : Pd} {P : Po} (hP : Pq w B J P) (id : Int) (hid : ¬ (0 ≤ id ∧ id < (P.pages : Int))) :
    Calls Try.prog 12 #[J.ptr, .int .i64 id] w fun e w' => e = .returned (.tuple #[.agg Pg.zero.cs, .int .i64 1]) ∧ Below w.heap.size w w' := by
  have hdec : (decide (0 ≤ id) && decide (id < (P.pages : Int))) = false := by
    rw [Bool.and_eq_false_iff, decide_eq_false_iff_not, decide_eq_false_iff_not]
    omega
  have CH := Lib.hid (phas_any (hP.alloc (.cells Pg.zero.cs 40)) id)
  rw [hdec] at CH
  have R1 := Lib.hid (Bk.new w 40 Pg.zero.cs)
  have B1 := Lib.hid ((Below.refl w.heap.size w).alloc (Nat.le_refl _) (.cells Pg.zero.cs 40))
  obtain ⟨R, hR⟩ : ∃ R, R = w.heap.size := ⟨_, rfl⟩
  rw [← hR] at R1
  have HR := Lib.hid hR.symm
  clear hP hid hdec hR
  unfold Pd.ptr at CH ⊢
  go_enter Try.func12, Try.ntmps12
  go_upto_region 1 with fail
  rw [HR.out]
  go_wp2_with fail
  refine CH.out.mono ?_
  rintro e w2 ⟨rfl, rfl⟩
  clear CH
  generalize w.alloc (.cells Pg.zero.cs 40) = w1 at *
  go_wp2_with (first | (refine pbuild0 rfl rfl ?_) | (refine store_page rfl _ _ rfl R Pg.zero Pg.zero rfl rfl R1.out ?_))
  refine bodyPost_ret (ppage_ct rfl _ _ R Pg.zero (setRow_heap _ _ _ _ _ _ R1.out) rfl) rfl ?_
  exact ⟨rfl, below_setRow B1.out (Nat.le_of_eq HR.out) _⟩
set_option maxRecDepth 100000 in
set_option maxHeartbeats 4000000 in
theorem pput_bad {w : World} {B : Nat} {J : Pd} {P : Po} (hP : Pq w B J P) (id : Int) (x : Pg) (st : Int) (hbad : ¬ (0 ≤ id ∧ id < (P.pages : Int)) ∨ st < 0 ∨ ¬ x.ok) :
    Calls Try.prog 15 #[J.ptr, .int .i64 id, .agg x.cs, .int .i64 st] w fun e w' => e = .returned (.int .i64 1) ∧ Below w.heap.size w w' := by
  have CH := Lib.hid (phas_any (hP.alloc (.cells x.cs 40)) id)
  have K1 := Lib.hid (Bk.new w 40 x.cs)
  have B1 := Lib.hid ((Below.refl w.heap.size w).alloc (Nat.le_refl _) (.cells x.cs 40))
  have CC := Lib.hid (fun w' => show Calls Try.prog 34 #[.agg x.cs] w' (fun e w'' => e = .returned (.int .i64 x.err) ∧ Below w'.heap.size w' w'') from check_any x w')
  obtain ⟨G6, hG6⟩ : ∃ G6, G6 = w.heap.size := ⟨_, rfl⟩
  rw [← hG6] at K1
  have HG6 := Lib.hid hG6.symm
  obtain ⟨hs, hhs⟩ : ∃ hs : Bool, hs = (decide (0 ≤ id) && decide (id < (P.pages : Int))) := ⟨_, rfl⟩
  rw [← hhs] at CH
  have HH := Lib.hid (show hs = false ∨ st < 0 ∨ ¬ x.ok from by
    rcases hbad with h | h
    · left
      rw [hhs, Bool.and_eq_false_iff, decide_eq_false_iff_not, decide_eq_false_iff_not]
      omega
    · exact .inr h)
  clear hP hbad hhs hG6
  unfold Pd.ptr at CH ⊢
  go_enter Try.func15, Try.ntmps15
  go_upto_region 1 with fail
  rw [HG6.out]
  go_wp2_with fail
  refine CH.out.mono ?_
  rintro e w2 ⟨rfl, rfl⟩
  clear CH
  generalize w.alloc (.cells x.cs 40) = w1 at *
  rcases hs with _ | _
  · clear HH CC
    go_wp2
    go_ret
    exact ⟨rfl, B1.out⟩
  · by_cases hst : st < 0
    · have hstd : decide (st < 0) = true := decide_eq_true hst
      clear HH CC
      go_wp2
      go_ret
      exact ⟨rfl, B1.out⟩
    · have hstd : decide (st < 0) = false := decide_eq_false hst
      have hxo : ¬ x.ok := by
        rcases HH.out with h | h | h
        · cases h
        · exact absurd h hst
        · exact h
      have XE := Lib.hid (Pg.err_no hxo)
      rw [XE.out] at CC
      clear HH hxo
      go_wp2_with (refine load_page_if _ rfl (by first | rfl | kernel_rfl) G6 x rfl K1.out ?_)
      refine (CC.out _).mono ?_
      rintro e w3 ⟨rfl, hb⟩
      have B3 := Lib.hid (below_then B1.out hb B1.out.size)
      clear hb CC
      go_wp2
      go_ret
      exact ⟨rfl, B3.out⟩
end Go.Proofs.Ytgafajbdmegfgaa
