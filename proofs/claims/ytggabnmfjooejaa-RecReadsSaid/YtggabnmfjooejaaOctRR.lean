/- The walks of the document's own Reader. -/
import Derived.Test.YtggabnmfjooejaaOctRd2
import Derived.StillTailTactics
import Derived.BigRegion
set_option linter.unusedVariables false
set_option linter.unusedSimpArgs false
namespace Go.Proofs.Ytggabnmfjooejaa
open Go.RowKit

/-- The document's reader, as a value. -/
def rsv (st : Oct.Rs) : Value := .agg #[.string (st.getD ⟨#[]⟩), .bool st.isNone]

set_option maxHeartbeats 400000 in
theorem rr_bytes_none (n : Int) (w : World) :
    Calls Try.prog 38 #[.agg #[.string ⟨#[]⟩, .bool true], .int .i64 n] w fun e w' => e = .returned (.tuple #[.agg #[.string ⟨#[]⟩, .bool true], .string ⟨#[]⟩]) ∧ Below w.heap.size w w' := by
  go_enter Try.func38, Try.ntmps38
  go_wp2
  exact bodyPost_ret (v := .tuple #[.agg #[.string ⟨#[]⟩, .bool true], .string ⟨#[]⟩]) (by simp [results, Try.results38, go_sem]) rfl ⟨rfl, ((Below.refl _ _).alloc (Nat.le_refl _) _).alloc (by simp) _⟩

set_option maxHeartbeats 400000 in
theorem rr_bytes_ok (s : ByteArray) (n : Nat) (w : World) (hs : s.size ≤ maxLen) (hn : n ≤ s.size) :
    Calls Try.prog 38 #[.agg #[.string s, .bool false], .int .i64 n] w fun e w' => e = .returned (.tuple #[.agg #[.string (s.extract n s.size), .bool false], .string (s.extract 0 n)]) ∧ Below w.heap.size w w' := by
  unfold maxLen at hs
  have hn' : ¬ ((s.size : Int) < (n : Int)) := by omega
  go_enter Try.func38, Try.ntmps38
  go_wp2
  go_region
  all_goals go_wp2
  exact bodyPost_ret (v := .tuple #[.agg #[.string (s.extract n s.size), .bool false], .string (s.extract 0 n)]) (by simp [results, Try.results38, go_sem]) rfl ⟨rfl, ((((Below.refl _ _).alloc (Nat.le_refl _) _).alloc (by simp) _)).drew⟩
set_option maxHeartbeats 400000 in
theorem rr_bytes_over (s : ByteArray) (n : Int) (w : World) (hs : s.size ≤ maxLen) (hn : n < 0 ∨ (s.size : Int) < n) :
    Calls Try.prog 38 #[.agg #[.string s, .bool false], .int .i64 n] w fun e w' => e = .returned (.tuple #[.agg #[.string ⟨#[]⟩, .bool true], .string ⟨#[]⟩]) ∧ Below w.heap.size w w' := by
  unfold maxLen at hs
  rcases hn with hn | hn
  · go_enter Try.func38, Try.ntmps38
    go_wp2
    exact bodyPost_ret (v := .tuple #[.agg #[.string ⟨#[]⟩, .bool true], .string ⟨#[]⟩]) (by simp [results, Try.results38, go_sem]) rfl ⟨rfl, ((Below.refl _ _).alloc (Nat.le_refl _) _).alloc (by simp) _⟩
  · have hn' : ¬ n < 0 := by omega
    go_enter Try.func38, Try.ntmps38
    go_wp2
    exact bodyPost_ret (v := .tuple #[.agg #[.string ⟨#[]⟩, .bool true], .string ⟨#[]⟩]) (by simp [results, Try.results38, go_sem]) rfl ⟨rfl, ((Below.refl _ _).alloc (Nat.le_refl _) _).alloc (by simp) _⟩

theorem rr_bytes (st : Oct.Rs) (n : Int) (w : World) (hs : (st.getD ⟨#[]⟩).size ≤ maxLen) :
    Calls Try.prog 38 #[rsv st, .int .i64 n] w fun e w' => e = .returned (.tuple #[rsv (Oct.rbytes st n).2, .string (Oct.rbytes st n).1]) ∧ Below w.heap.size w w' := by
  cases st with
  | none => exact rr_bytes_none n w
  | some s =>
    by_cases hb : n < 0 ∨ (s.size : Int) < n
    · rw [show Oct.rbytes (some s) n = (⟨#[]⟩, none) by simp only [Oct.rbytes]; rw [if_pos hb]]
      exact rr_bytes_over s n w hs hb
    · rw [show Oct.rbytes (some s) n = (s.extract 0 n.toNat, some (s.extract n.toNat s.size)) by simp only [Oct.rbytes]; rw [if_neg hb]]
      obtain ⟨k, rfl⟩ := Int.eq_ofNat_of_zero_le (show 0 ≤ n by omega)
      exact rr_bytes_ok s k w hs (by omega)

set_option maxHeartbeats 400000 in
theorem rr_num_bad (x : ByteArray) (b : Bool) (n : Int) (w : World) (hn : n < 1 ∨ 8 < n) :
    Calls Try.prog 50 #[.agg #[.string x, .bool b], .int .i64 n] w fun e w' => e = .returned (.tuple #[.agg #[.string ⟨#[]⟩, .bool true], .int .u64 0]) ∧ Below w.heap.size w w' := by
  rcases hn with hn | hn
  · go_enter Try.func50, Try.ntmps50
    go_wp2
    exact bodyPost_ret (v := .tuple #[.agg #[.string ⟨#[]⟩, .bool true], .int .u64 0]) (by simp [results, Try.results50, go_sem]) rfl ⟨rfl, ((Below.refl _ _).alloc (Nat.le_refl _) _).alloc (by simp) _⟩
  · have hn' : ¬ n < 1 := by omega
    go_enter Try.func50, Try.ntmps50
    go_wp2
    exact bodyPost_ret (v := .tuple #[.agg #[.string ⟨#[]⟩, .bool true], .int .u64 0]) (by simp [results, Try.results50, go_sem]) rfl ⟨rfl, ((Below.refl _ _).alloc (Nat.le_refl _) _).alloc (by simp) _⟩

/-- One shape for the document's Val. -/
theorem rval_any (b : ByteArray) (w : World) : ∃ ok : Bool, Calls Try.prog 52 #[.string b] w fun e w' => e = .returned (.tuple #[.int .u64 (Oct.nval b : Nat), .bool ok]) ∧ Below w.heap.size w w' := by
  by_cases hv : 1 ≤ b.size ∧ b.size ≤ 8
  · have e1 : Oct.nval b = Oct.sval b := by unfold Oct.nval; rw [if_pos hv]
    rw [e1]
    exact ⟨true, rval_good b w hv.1 hv.2⟩
  · have e1 : Oct.nval b = 0 := by unfold Oct.nval; rw [if_neg hv]
    rw [e1]
    exact ⟨false, rval_bad b w (by omega)⟩

set_option maxHeartbeats 400000 in
theorem rr_num_core (x y b : ByteArray) (bx bad : Bool) (n : Int) (w : World) (hlo : 1 ≤ n) (hhi : n ≤ 8)
    (c : ∀ w : World, Calls Try.prog 38 #[.agg #[.string x, .bool bx], .int .i64 n] w fun e w' => e = .returned (.tuple #[.agg #[.string y, .bool bad], .string b]) ∧ Below w.heap.size w w') :
    Calls Try.prog 50 #[.agg #[.string x, .bool bx], .int .i64 n] w fun e w' => e = .returned (.tuple #[.agg #[.string y, .bool bad], .int .u64 (Oct.nval b : Nat)]) ∧ Below w.heap.size w w' := by
  have C := Lib.hid c; clear c
  have h1 : ¬ n < 1 := by omega
  have h2 : ¬ 8 < n := by omega
  go_enter Try.func50, Try.ntmps50
  go_wp2_with fail
  refine (C.out _).mono ?_
  rintro e w1 ⟨rfl, hb1⟩
  have g0 : Bk w1 w.heap.size 72 #[.string x, .bool bx] := ((Bk.new w _ _).alloc _).kept hb1
  have g1 : Bk w1 (w.heap.size + 1) 72 #[.string ⟨#[]⟩, .bool false] := Bk.kept (by have := Bk.new (w.alloc (.cells #[.string x, .bool bx] 72)) 72 #[.string ⟨#[]⟩, .bool false]; simpa using this) hb1
  have hB : Below w.heap.size w w1 := below_then (((Below.refl _ _).alloc (Nat.le_refl _) _).alloc (by simp) _) hb1 (by simp; omega)
  clear hb1
  have k0 := g0.cell 0; have k1 := g0.cell 1; have f0 := g0.fz 0; have f1 := g0.fz 1
  simp only [List.getElem?_toArray, List.getElem?_cons_zero, List.getElem?_cons_succ] at k0 k1
  have G0 := Lib.hid ((g0.set 0 (.string y)).set 1 (.bool bad))
  have G1 := Lib.hid ((g1.far (p := ⟨w.heap.size, 0, none⟩) (by simp) (.string y)).far (p := ⟨w.heap.size, 1, none⟩) (by simp) (.bool bad))
  have HB := Lib.hid ((hB.setCell (p := ⟨w.heap.size, 0, none⟩) (Nat.le_refl _) (.string y)).setCell (p := ⟨w.heap.size, 1, none⟩) (Nat.le_refl _) (.bool bad))
  clear g0 g1 hB
  go_wp2_with fail
  obtain ⟨ok, c2⟩ := rval_any b ((w1.setCell ⟨w.heap.size, 0, none⟩ (.string y)).setCell ⟨w.heap.size, 1, none⟩ (.bool bad))
  refine c2.mono ?_
  clear c2
  rintro e w2 ⟨rfl, hb2⟩
  have g0 := G0.out.kept hb2
  have g1 := G1.out.kept hb2
  have hB := below_then HB.out hb2 HB.out.size
  clear G0 G1 HB k0 k1 f0 f1 hb2
  have k0 := g0.cell 0; have k1 := g0.cell 1; have f0 := g1.fz 0; have f1 := g1.fz 1; have m0 := g1.cell 0; have m1 := g1.cell 1
  simp only [List.setIfInBounds_toArray, List.set_cons_zero, List.set_cons_succ, List.getElem?_toArray, List.getElem?_cons_zero, List.getElem?_cons_succ] at k0 k1 m0 m1
  have FIN := Lib.hid ((hB.setCell (p := ⟨w.heap.size + 1, 0, none⟩) (by simp) (.string y)).setCell (p := ⟨w.heap.size + 1, 1, none⟩) (by simp) (.bool bad))
  clear g0 g1 hB
  go_wp2
  exact bodyPost_ret (v := .tuple #[.agg #[.string y, .bool bad], .int .u64 (Oct.nval b : Nat)]) (by simp [results, Try.results50, go_sem, f0, f1, m0, m1]) rfl ⟨rfl, FIN.out⟩

theorem rr_num (st : Oct.Rs) (n : Int) (w : World) (hs : (st.getD ⟨#[]⟩).size ≤ maxLen) :
    Calls Try.prog 50 #[rsv st, .int .i64 n] w fun e w' => e = .returned (.tuple #[rsv (Oct.rnum st n).2, .int .u64 (Oct.rnum st n).1]) ∧ Below w.heap.size w w' := by
  by_cases hb : n < 1 ∨ 8 < n
  · have e : Oct.rnum st n = (0, none) := by
      cases st with
      | none => rfl
      | some s => simp only [Oct.rnum]; rw [if_pos hb]
    rw [e]
    exact rr_num_bad _ _ n w hb
  · have e : Oct.rnum st n = (Oct.nval (Oct.rbytes st n).1, (Oct.rbytes st n).2) := by
      cases st with
      | none => rfl
      | some s => simp only [Oct.rnum]; rw [if_neg hb]
    rw [e]
    exact rr_num_core _ _ _ _ _ n w (by omega) (by omega) (fun w => rr_bytes st n w hs)

set_option maxHeartbeats 400000 in
theorem rr_text_core (x y z b : ByteArray) (bx by_ bz : Bool) (n : Nat) (w : World) (hn : n < 256)
    (c : ∀ w : World, Calls Try.prog 50 #[.agg #[.string x, .bool bx], .int .i64 1] w fun e w' => e = .returned (.tuple #[.agg #[.string y, .bool by_], .int .u64 n]) ∧ Below w.heap.size w w')
    (d : ∀ w : World, Calls Try.prog 38 #[.agg #[.string y, .bool by_], .int .i64 n] w fun e w' => e = .returned (.tuple #[.agg #[.string z, .bool bz], .string b]) ∧ Below w.heap.size w w') :
    Calls Try.prog 51 #[.agg #[.string x, .bool bx]] w fun e w' => e = .returned (.tuple #[.agg #[.string z, .bool bz], .string b]) ∧ Below w.heap.size w w' := by
  have C := Lib.hid c; have D := Lib.hid d; clear c d
  go_enter Try.func51, Try.ntmps51
  go_wp2_with fail
  refine (C.out _).mono ?_
  rintro e w1 ⟨rfl, hb1⟩
  have g0 : Bk w1 w.heap.size 72 #[.string x, .bool bx] := ((Bk.new w _ _).alloc _).kept hb1
  have g1 : Bk w1 (w.heap.size + 1) 72 #[.string ⟨#[]⟩, .bool false] := Bk.kept (by have := Bk.new (w.alloc (.cells #[.string x, .bool bx] 72)) 72 #[.string ⟨#[]⟩, .bool false]; simpa using this) hb1
  have hB : Below w.heap.size w w1 := below_then (((Below.refl _ _).alloc (Nat.le_refl _) _).alloc (by simp) _) hb1 (by simp; omega)
  clear hb1
  have k0 := g0.cell 0; have k1 := g0.cell 1; have f0 := g0.fz 0; have f1 := g0.fz 1
  simp only [List.getElem?_toArray, List.getElem?_cons_zero, List.getElem?_cons_succ] at k0 k1
  have G0 := Lib.hid ((g0.set 0 (.string y)).set 1 (.bool by_))
  have G1 := Lib.hid ((g1.far (p := ⟨w.heap.size, 0, none⟩) (by simp) (.string y)).far (p := ⟨w.heap.size, 1, none⟩) (by simp) (.bool by_))
  have HB := Lib.hid ((hB.setCell (p := ⟨w.heap.size, 0, none⟩) (Nat.le_refl _) (.string y)).setCell (p := ⟨w.heap.size, 1, none⟩) (Nat.le_refl _) (.bool by_))
  clear g0 g1 hB
  go_wp2_with fail
  refine (D.out _).mono ?_
  rintro e w2 ⟨rfl, hb2⟩
  have g0 := G0.out.kept hb2
  have g1 := G1.out.kept hb2
  have hB := below_then HB.out hb2 HB.out.size
  clear G0 G1 HB k0 k1 f0 f1 hb2
  have f0 := g1.fz 0; have f1 := g1.fz 1; have m0 := g1.cell 0; have m1 := g1.cell 1
  simp only [List.getElem?_toArray, List.getElem?_cons_zero, List.getElem?_cons_succ] at m0 m1
  have FIN := Lib.hid ((hB.setCell (p := ⟨w.heap.size + 1, 0, none⟩) (by simp) (.string z)).setCell (p := ⟨w.heap.size + 1, 1, none⟩) (by simp) (.bool bz))
  clear g0 g1 hB
  go_wp2
  exact bodyPost_ret (v := .tuple #[.agg #[.string z, .bool bz], .string b]) (by simp [results, Try.results51, go_sem, f0, f1, m0, m1]) rfl ⟨rfl, FIN.out⟩

theorem rr_text (st : Oct.Rs) (w : World) (hs : (st.getD ⟨#[]⟩).size ≤ maxLen) :
    Calls Try.prog 51 #[rsv st] w fun e w' => e = .returned (.tuple #[rsv (Oct.rtext st).2, .string (Oct.rtext st).1]) ∧ Below w.heap.size w w' :=
  rr_text_core _ _ _ _ _ _ _ (Oct.rnum st 1).1 w (rnum1_lt st) (fun w => rr_num st 1 w hs) (fun w => rr_bytes (Oct.rnum st 1).2 _ w (Nat.le_trans (rnum_size st 1) hs))

end Go.Proofs.Ytggabnmfjooejaa
