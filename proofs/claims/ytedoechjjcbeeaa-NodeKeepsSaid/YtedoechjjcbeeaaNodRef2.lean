/- The walks of the document's own Count, Find, Down; of package node: Down. -/
import Derived.Test.YtedoechjjcbeeaaNodRef
set_option linter.unusedVariables false
set_option linter.unusedSimpArgs false
namespace Go.Proofs.Ytedoechjjcbeeaa
open Go.RowKit

theorem rcount_any (p : Pg) (w : World) :
    Calls Try.prog 23 #[p.v] w fun e w' => e = .returned (.int .i64 (cnt p.c : Nat)) ∧ Below w.heap.size w w' := by
  have CC := Lib.hid (fun w => cells_any p w)
  generalize cnt p.c = C at *
  unfold Pg.v
  go_enter Try.func23, Try.ntmps23
  go_wp2_with (refine load_page rfl _ rfl w.heap.size p rfl (Bk.new _ _ _) ?_)
  refine (CC.out _).mono ?_
  rintro e w2 ⟨a, cap, rfl, hr, hb2⟩
  have B2 := Lib.hid (below_then ((Below.refl _ _).alloc (Nat.le_refl _) (.cells p.cs 40)) hb2 (by simp))
  clear hb2 CC hr
  go_wp2
  go_ret
  exact ⟨rfl, B2.out⟩
set_option maxHeartbeats 2000000 in
theorem rfind_any (p : Pg) (key : ByteArray) (w : World) (hs : Sz p.c) :
    Calls Try.prog 19 #[p.v, .string key] w fun e w' => ∃ (j : Nat) (b : Bool), e = .returned (.tuple #[.int .i64 j, .bool b]) ∧ IsFnd p key j b ∧ Below w.heap.size w w' := by
  have CC := Lib.hid (fun w => cells_any p w)
  have IA := Lib.hid (isFnd_at p key); have IN := Lib.hid (isFnd_none p key)
  have HS := Lib.hid hs
  have hn := cnt_le p.c
  clear hs
  generalize cnt p.c = n at *
  generalize hF : IsFnd p key = F at *
  clear hF
  unfold Pg.v
  go_enter Try.func19, Try.ntmps19
  go_wp2_with (refine load_page rfl _ rfl w.heap.size p rfl (Bk.new _ _ _) ?_)
  refine (CC.out _).mono ?_
  rintro e w2 ⟨a, cap, rfl, hr, hb2⟩
  have R2 := Lib.hid (hr.low (show w.heap.size ≤ _ by simp))
  have B2 := Lib.hid (below_then ((Below.refl _ _).alloc (Nat.le_refl _) (.cells p.cs 40)) hb2 (by simp))
  clear hb2 CC hr
  go_wp2_with fail
  go_loopw [7] (fun x wr => ∃ j : Nat, j ≤ n ∧ x = .int .i64 j ∧ (∀ q, q < j → slt (p.c q).key key = true) ∧ CRow wr w.heap.size a n cap p.c ∧ Below w.heap.size w wr) (fun x _ => n - (intOf x).toNat)
  case atStart => exact ⟨0, by omega, rfl, (fun q hq => absurd hq (Nat.not_lt_zero _)), R2.out, B2.out⟩
  case round =>
    clear B2 R2
    obtain ⟨j, hj, rfl, hq, hk, hb⟩ := hrel
    have HQ := Lib.hid hq; have HK := Lib.hid hk; have HB := Lib.hid hb
    clear hq hk hb
    by_cases hlt : j < n
    · obtain ⟨g, hg, _, _⟩ := HK.out.form (by omega)
      subst hg
      obtain ⟨y0, y1⟩ := HK.out.cell hlt
      have ck := fun w => says_any (p.c j) w (HS.out j (by omega))
      have q1 := IA.out j hlt HQ.out
      have q2 : slt (p.c j).key key = true → ∀ q, q < j + 1 → slt (p.c q).key key = true := fun h q hq => by
        by_cases e : q = j
        · rw [e]; exact h
        · exact HQ.out q (by omega)
      have Q1 := Lib.hid q1; have Q2 := Lib.hid q2
      clear q1 q2
      unfold Ce.v at ck
      have CK := Lib.hid ck
      clear ck
      generalize (p.c j).st = st at *
      generalize (p.c j).d = d at *
      generalize (p.c j).key = K at *
      generalize (p.c j).rst = R at *
      generalize decide (p.c j).says = O at *
      go_wp2_with fail
      refine (CK.out _).mono ?_
      rintro e w3 ⟨rfl, hb3⟩
      have K3 := Lib.hid (HK.out.kept hb3)
      have B3 := Lib.hid (below_then HB.out hb3 HB.out.size)
      clear hb3 HK HB CK y0 y1
      by_cases hl : slt K key = true
      · have hl' : Op.bytesLess K.toList key.toList = true := hl
        have R2 := Lib.hid (Q2.out hl)
        clear Q1 Q2 hl
        go_wp2
        go_roundw
        case rel => exact ⟨j + 1, by omega, by go_num, R2.out, K3.out, B3.out⟩
        case measure => simp [intOf]; omega
      · have hl0 : slt K key = false := by simpa using hl
        have hl' : Op.bytesLess K.toList key.toList = false := hl0
        have R1 := Lib.hid (Q1.out hl0)
        clear Q1 Q2 hl hl0
        go_wp2
        go_ret2
        exact ⟨j, _, rfl, R1.out, B3.out⟩
    · obtain rfl : j = n := by omega
      have R1 := Lib.hid (IN.out HQ.out)
      go_wp2
      go_ret2
      exact ⟨j, _, rfl, R1.out, HB.out⟩
theorem fDown_le (p : Pg) (key : ByteArray) : fDown p key ≤ 6 := by
  have := fAt_le p key; have := cnt_le p.c; unfold fDown; split <;> omega
theorem down_any (p : Pg) (key : ByteArray) (w : World) (hs : Sz p.c) :
    Calls Try.prog 24 #[p.v, .string key] w fun e w' => e = .returned (.int .i64 (fDown p key : Nat)) ∧ Below w.heap.size w w' := by
  have CC := Lib.hid (fun w => find_any p key w hs)
  have hd : fDown p key = if fThere p key then fAt p key else fAt p key - 1 := rfl
  have hn : fAt p key ≤ 6 := Nat.le_trans (fAt_le p key) (cnt_le p.c)
  rw [hd]
  unfold IsFnd at CC
  clear hd hs
  generalize fAt p key = j0 at *
  generalize fThere p key = b0 at *
  unfold Pg.v
  go_enter Try.func24, Try.ntmps24
  go_wp2_with (refine load_page rfl _ rfl w.heap.size p rfl (Bk.new _ _ _) ?_)
  refine (CC.out _).mono ?_
  rintro e w2 ⟨j, b, rfl, ⟨rfl, rfl⟩, hb2⟩
  have B2 := Lib.hid (below_then ((Below.refl _ _).alloc (Nat.le_refl _) (.cells p.cs 40)) hb2 (by simp))
  clear hb2 CC
  cases b
  · simp only [Bool.false_eq_true, if_false]
    by_cases h0 : j = 0
    · subst h0
      go_wp2
      go_ret
      exact ⟨rfl, B2.out⟩
    · have h0' : ((j : Int) == 0) = false := by simp; omega
      obtain ⟨i, rfl⟩ : ∃ i, j = i + 1 := ⟨j - 1, by omega⟩
      go_wp2
      go_ret
      exact ⟨by simp, B2.out⟩
  · simp only [if_true]
    go_wp2
    go_ret
    exact ⟨rfl, B2.out⟩
theorem rdown_any (p : Pg) (key : ByteArray) (w : World) (hs : Sz p.c) :
    Calls Try.prog 25 #[p.v, .string key] w fun e w' => e = .returned (.int .i64 (fDown p key : Nat)) ∧ Below w.heap.size w w' := by
  have CC := Lib.hid (fun w => rfind_any p key w hs)
  have hd : fDown p key = if fThere p key then fAt p key else fAt p key - 1 := rfl
  have hn : fAt p key ≤ 6 := Nat.le_trans (fAt_le p key) (cnt_le p.c)
  rw [hd]
  unfold IsFnd at CC
  clear hd hs
  generalize fAt p key = j0 at *
  generalize fThere p key = b0 at *
  unfold Pg.v
  go_enter Try.func25, Try.ntmps25
  go_wp2_with (refine load_page rfl _ rfl w.heap.size p rfl (Bk.new _ _ _) ?_)
  refine (CC.out _).mono ?_
  rintro e w2 ⟨j, b, rfl, ⟨rfl, rfl⟩, hb2⟩
  have B2 := Lib.hid (below_then ((Below.refl _ _).alloc (Nat.le_refl _) (.cells p.cs 40)) hb2 (by simp))
  clear hb2 CC
  cases b
  · simp only [Bool.false_eq_true, if_false]
    by_cases h0 : j = 0
    · subst h0
      go_wp2
      go_ret
      exact ⟨rfl, B2.out⟩
    · have h0' : ((j : Int) == 0) = false := by simp; omega
      obtain ⟨i, rfl⟩ : ∃ i, j = i + 1 := ⟨j - 1, by omega⟩
      go_wp2
      go_ret
      exact ⟨by simp, B2.out⟩
  · simp only [if_true]
    go_wp2
    go_ret
    exact ⟨rfl, B2.out⟩
end Go.Proofs.Ytedoechjjcbeeaa
