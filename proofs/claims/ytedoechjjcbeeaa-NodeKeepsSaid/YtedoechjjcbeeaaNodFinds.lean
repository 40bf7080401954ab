/- The walk of NodeFinds. -/
import Derived.Test.YtedoechjjcbeeaaNodPg
set_option linter.unusedVariables false
set_option linter.unusedSimpArgs false
namespace Go.Proofs.Ytedoechjjcbeeaa
open Go.RowKit

theorem sorted_le (p : Pg) (h : nodeOk p) : ∀ j i, i < j → j < cnt p.c → slt (p.c i).key (p.c j).key = true
  | 0, i, hi, _ => absurd hi (Nat.not_lt_zero _)
  | j + 1, i, hi, hj => by
    have hn := cnt_le p.c
    have h1 := ((okAt_in hj).1 (h.2 (j + 1) (by omega))).2 (by omega)
    rw [show j + 1 - 1 = j by omega] at h1
    by_cases e : i = j
    · rw [e]; exact h1
    · exact slt_trans (sorted_le p h j i (by omega) (by omega)) h1
theorem finds_facts (p : Pg) (key : ByteArray) (h : nodeOk p) (i : Nat) (hi : i < cnt p.c) :
    (p.c i).says ∧ slt (p.c i).key key = decide (i < fAt p key) ∧ seq (p.c i).key key = (fThere p key && decide (i = fAt p key)) := by
  have hn := cnt_le p.c
  have hs : (p.c i).says := cellOk_says p i ((okAt_in hi).1 (h.2 i (by omega))).1
  refine ⟨hs, ?_⟩
  rcases Nat.lt_trichotomy i (fAt p key) with hl | he | hg
  · have h1 := fnd_below (fun j => slt (p.c j).key key) (cnt p.c) i hl
    refine ⟨by rw [decide_eq_true hl]; exact h1, ?_⟩
    rw [decide_eq_false (show ¬ i = fAt p key by omega), Bool.and_false]
    cases hq : seq (p.c i).key key
    · rfl
    · have e := (seq_iff _ _).1 hq
      have h2 : slt (p.c i).key key = true := h1
      rw [e, slt_irrefl] at h2
      cases h2
  · have h1 : slt (p.c i).key key = false := by
      have h1 : slt (p.c (fAt p key)).key key = false := fnd_at (fun j => slt (p.c j).key key) (cnt p.c) (show fAt p key < cnt p.c by omega)
      rw [← he] at h1
      exact h1
    refine ⟨by rw [decide_eq_false (show ¬ i < fAt p key by omega)]; exact h1, ?_⟩
    rw [decide_eq_true he, Bool.and_true]
    unfold fThere
    rw [← he, decide_eq_true hi, Bool.true_and]
  · have h1 : slt (p.c (fAt p key)).key key = false := fnd_at (fun j => slt (p.c j).key key) (cnt p.c) (show fAt p key < cnt p.c by omega)
    have h2 := sorted_le p h i (fAt p key) hg hi
    have h3 : slt (p.c i).key key = false := by
      cases hq : slt (p.c i).key key
      · rfl
      · rw [slt_trans h2 hq] at h1; cases h1
    refine ⟨by rw [decide_eq_false (show ¬ i < fAt p key by omega)]; exact h3, ?_⟩
    rw [decide_eq_false (show ¬ i = fAt p key by omega), Bool.and_false]
    cases hq : seq (p.c i).key key
    · rfl
    · have e := (seq_iff _ _).1 hq
      rw [e, h1] at h2
      cases h2
set_option maxRecDepth 100000 in
set_option maxHeartbeats 2000000 in
theorem finds_core (p : Pg) (key : ByteArray) (w : World) (hs : Sz p.c) :
    Calls Try.prog 7 #[p.v, .string key] w fun e w' => e = .returned (.bool true) ∧ Below w.heap.size w w' := by
  have CA := Lib.hid awake_any
  have CK := Lib.hid (fun w => check_any p w hs)
  have CN := Lib.hid (fun w => count_any p w)
  have CF := Lib.hid (fun w => find_any p key w hs)
  have CD := Lib.hid (fun w => down_any p key w hs)
  have HS := Lib.hid hs
  unfold IsFnd at CF
  have hn := cnt_le p.c
  have hf := fAt_le p key
  have hd : fDown p key = if fThere p key then fAt p key else fAt p key - 1 := rfl
  have FF := Lib.hid (finds_facts p key)
  have hno : ¬ nodeOk p → nodeE p = 40 := fun k => if_neg k
  have hyes : nodeOk p → nodeE p = 0 := fun k => if_pos k
  have HNO := Lib.hid hno; have HYES := Lib.hid hyes
  clear hs hno hyes
  generalize hE : nodeE p = E at *
  clear hE
  generalize cnt p.c = n at *
  generalize fAt p key = at0 at *
  generalize fThere p key = th at *
  generalize fDown p key = dn at *
  have HD := Lib.hid hd
  clear hd
  unfold Pg.v at *
  go_enter Try.func7, Try.ntmps7
  go_wp2_with fail
  refine (CA.out _).mono ?_
  rintro e w2 ⟨rfl, hb2⟩
  have Q2 := Lib.hid ((Bk.new w 40 p.cs).kept hb2)
  have B2 := Lib.hid (below_then ((Below.refl _ _).alloc (Nat.le_refl _) (.cells p.cs 40)) hb2 (by simp))
  clear hb2 CA
  go_wp2_with (refine load_page rfl _ rfl w.heap.size p rfl Q2.out ?_)
  refine (CK.out _).mono ?_
  rintro e w3 ⟨rfl, hb3⟩
  have Q3 := Lib.hid (Q2.out.kept hb3)
  have B3 := Lib.hid (below_then B2.out hb3 B2.out.size)
  clear hb3 Q2 B2 CK
  by_cases hok : nodeOk p
  · have e0 := HYES.out hok
    subst e0
    have FI := Lib.hid (fun i hi => FF.out hok i hi)
    clear HYES HNO FF hok
    go_wp2_with (refine load_page rfl _ rfl w.heap.size p rfl Q3.out ?_)
    refine (CN.out _).mono ?_
    rintro e w4 ⟨rfl, hb4⟩
    have Q4 := Lib.hid (Q3.out.kept hb4)
    have B4 := Lib.hid (below_then B3.out hb4 B3.out.size)
    clear hb4 Q3 B3 CN
    go_wp2_with (refine load_page rfl _ rfl w.heap.size p rfl Q4.out ?_)
    refine (CF.out _).mono ?_
    rintro e w5 ⟨j0, b0, rfl, ⟨rfl, rfl⟩, hb5⟩
    have Q5 := Lib.hid (Q4.out.kept hb5)
    have B5 := Lib.hid (below_then B4.out hb5 B4.out.size)
    clear hb5 Q4 B4 CF
    have hf1 : ¬ ((j0 : Int) < 0) := by omega
    have hf2 : ¬ (n < j0) := by omega
    go_wp2_with fail
    go_loopw [8] (fun x wr => ∃ i : Nat, i ≤ n ∧ x = .int .i64 i ∧ Bk wr w.heap.size 40 p.cs ∧ Below w.heap.size w wr) (fun x _ => n - (intOf x).toNat)
    case atStart => exact ⟨0, by omega, rfl, Q5.out, B5.out⟩
    case round =>
      clear Q5 B5
      obtain ⟨i, hi, rfl, hk, hb⟩ := hrel
      have QR := Lib.hid hk; have BR := Lib.hid hb
      clear hk hb
      by_cases hlt : i < n
      · obtain ⟨y0, y1⟩ := pg_cell QR.out i (by omega)
        obtain ⟨f1, f2, f3⟩ := FI.out i hlt
        have ck := fun w => key_any (p.c i) w (HS.out i (by omega))
        rw [decide_eq_true f1] at ck
        unfold Ce.v at ck
        have CK := Lib.hid ck
        clear ck f1
        unfold slt at f2
        unfold seq at f3
        generalize (p.c i).st = st at *
        generalize (p.c i).d = d at *
        generalize (p.c i).key = ky at *
        generalize (p.c i).rst = rs at *
        go_wp2_with fail
        refine (CK.out _).mono ?_
        rintro e w6 ⟨rfl, hb6⟩
        have Q6 := Lib.hid (QR.out.kept hb6)
        have B6 := Lib.hid (below_then BR.out hb6 BR.out.size)
        clear hb6 CK y0 y1 QR BR
        rcases Nat.lt_trichotomy i j0 with hl | he | hg
        · rw [decide_eq_true hl] at f2
          rw [decide_eq_false (show ¬ i = j0 by omega), Bool.and_false] at f3
          have hne : ((i : Int) == (j0 : Int)) = false := by simp; omega
          cases b0
          all_goals
            go_wp2
            go_roundw
            case rel => exact ⟨i + 1, by omega, by go_num, Q6.out, B6.out⟩
            case measure => simp [intOf]; omega
        · subst he
          rw [decide_eq_false (show ¬ i < i by omega)] at f2
          rw [decide_eq_true rfl, Bool.and_true] at f3
          cases b0
          all_goals
            go_wp2
            go_roundw
            case rel => exact ⟨i + 1, by omega, by go_num, Q6.out, B6.out⟩
            case measure => simp [intOf]; omega
        · rw [decide_eq_false (show ¬ i < j0 by omega)] at f2
          rw [decide_eq_false (show ¬ i = j0 by omega), Bool.and_false] at f3
          have hne : ((i : Int) == (j0 : Int)) = false := by simp; omega
          have hng : ¬ (i : Int) < (j0 : Int) := by omega
          cases b0
          all_goals
            go_wp2
            go_roundw
            case rel => exact ⟨i + 1, by omega, by go_num, Q6.out, B6.out⟩
            case measure => simp [intOf]; omega
      · obtain rfl : i = n := by omega
        go_wp2_with (refine load_page rfl _ rfl w.heap.size p rfl QR.out ?_)
        refine (CD.out _).mono ?_
        rintro e w7 ⟨rfl, hb7⟩
        have B7 := Lib.hid (below_then BR.out hb7 BR.out.size)
        clear hb7 CD QR BR
        have hd := HD.out
        cases b0
        · simp only [Bool.false_eq_true, if_false] at hd
          by_cases hj0 : j0 = 0
          · obtain rfl : dn = 0 := by omega
            subst hj0
            clear hd
            go_wp2
            go_ret
            exact ⟨rfl, B7.out⟩
          · have hsub : IntKind.i64.wrap ((j0 : Int) - 1) = (dn : Int) := by simp [IntKind.wrap, IntKind.signed, IntKind.bits]; omega
            have hs2 : (j0 : Int) - 1 = (dn : Int) := by omega
            clear hd hj0
            go_wp2
            go_ret
            exact ⟨rfl, B7.out⟩
        · simp only [if_true] at hd
          subst hd
          go_wp2
          go_ret
          exact ⟨rfl, B7.out⟩
  · have e0 := HNO.out hok
    subst e0
    clear HYES HNO FF hok
    go_wp2
    go_ret
    exact ⟨rfl, B3.out⟩
theorem walk_NodeFinds (v : Value) (p : Pg) (key : ByteArray) (w : World) (h : IsPage v p) (hk : key.size ≤ maxLen) :
    Calls Try.prog 7 #[v, .string key] w fun e w' => e = .returned (.bool true) ∧ Below w.heap.size w w' := by
  rw [h.val]
  exact finds_core p key w (fun i hi => (h.cells i hi).2)
end Go.Proofs.Ytedoechjjcbeeaa
