/- The walks of package node on cells: Child, data, Leaf, Inner and the tests; of the document's own. -/
import Derived.Test.YtelbioooggnbiaaGreatNodKey
import Derived.Test.YtelbioooggnbiaaGreatOctNum
import Derived.Test.YtelbioooggnbiaaGreatOctRNum
import Derived.Test.YtelbioooggnbiaaGreatZs
import Derived.Laws.ResultCell
set_option linter.unusedVariables false
set_option linter.unusedSimpArgs false
namespace Go.Proofs.YtelbioooggnbiaaGreat
open Go.RowKit

theorem rest_small (n w : Nat) (h : n < 256 ^ w) : Oct.rest n w = 0 := Nat.div_eq_of_lt h
theorem data_any (key rest : ByteArray) (w : World) (h1 : key.size ≤ 255) (h2 : 1 + key.size + rest.size ≤ maxLen) :
    Calls Tryz.prog 82 #[.string key, .string rest] w fun e w' => e = .returned (.string (dat key rest)) ∧ Below w.heap.size w w' := by
  unfold maxLen at h2
  have hst := fun wx => Oct.run_string1 (P := Tryz.prog) wx 95 9 5 key.size Tryz.underlying95 Tryz.underlying5 Tryz.underlying9
  go_enter Tryz.func82, Tryz.ntmps82
  go_wp2
  go_ret
  exact ⟨rfl, (Below.refl _ _).alloc (Nat.le_refl _) _⟩
theorem ischild_any (n : Int) (w : World) :
    Calls Tryz.prog 113 #[.int .i64 n] w fun e w' => e = .returned (.bool (decide (1 ≤ n ∧ n < 1024))) ∧ w = w' := by
  by_cases h1 : 1 ≤ n
  · by_cases h2 : n < 1024
    · rw [decide_eq_true ⟨h1, h2⟩]
      go_enter Tryz.func113, Tryz.ntmps113
      go_wp2
      go_ret
      exact ⟨rfl, rfl⟩
    · rw [decide_eq_false (fun h => h2 h.2)]
      go_enter Tryz.func113, Tryz.ntmps113
      go_wp2
      go_ret
      exact ⟨rfl, rfl⟩
  · rw [decide_eq_false (fun h => h1 h.1)]
    go_enter Tryz.func113, Tryz.ntmps113
    go_wp2
    go_ret
    exact ⟨rfl, rfl⟩
theorem child_said (c : Ce) (h : c.says ∧ c.rst.size = 4 ∧ 1 ≤ Oct.sval c.rst ∧ Oct.sval c.rst < 1024) : c.child = Oct.sval c.rst := if_pos h
theorem child_not (c : Ce) (h : ¬ (c.says ∧ c.rst.size = 4 ∧ 1 ≤ Oct.sval c.rst ∧ Oct.sval c.rst < 1024)) : c.child = 0 := if_neg h
theorem sval4 (s : ByteArray) (h : s.size = 4) : Oct.sval s < 4294967296 := by
  have := Oct.sval_lt s
  rw [h] at this
  simpa using this
set_option maxHeartbeats 1000000 in
theorem child_any (c : Ce) (w : World) (hs : c.d.size ≤ maxLen) :
    Calls Tryz.prog 106 #[c.v] w fun e w' => e = .returned (.int .i64 (c.child : Nat)) ∧ Below w.heap.size w w' := by
  have ck := fun w => key_any c w hs
  have hcs := child_said c; have hcn := child_not c
  have HCS := Lib.hid hcs; have HCN := Lib.hid hcn
  clear hcs hcn
  have hrz := Nat.le_trans c.rst_size hs
  unfold maxLen at hrz
  clear hs
  unfold Ce.v at *
  by_cases hy : c.says
  · have HY := Lib.hid hy
    rw [decide_eq_true hy] at ck
    have CK := Lib.hid ck
    clear ck hy
    generalize Ce.key c = K at *
    generalize Ce.rst c = R at *
    generalize Ce.child c = C at *
    by_cases h4 : R.size = 4
    · have hlt := sval4 R h4
      have cv := fun w => val_good R w (by omega) (by omega)
      have CV := Lib.hid cv
      have h4' : ((R.size : Int) != 4) = false := by simp; omega
      have H4 := Lib.hid h4
      clear cv h4
      have HC : Hid ((1 ≤ Oct.sval R ∧ Oct.sval R < 1024 → C = Oct.sval R) ∧ (¬ (1 ≤ Oct.sval R ∧ Oct.sval R < 1024) → C = 0)) :=
        Lib.hid ⟨fun h => HCS.out ⟨HY.out, H4.out, h.1, h.2⟩, fun h => HCN.out fun k => h ⟨k.2.2.1, k.2.2.2⟩⟩
      clear HCS HCN
      generalize Oct.sval R = n at *
      have CI := Lib.hid (fun w => ischild_any (n : Int) w)
      go_enter Tryz.func106, Tryz.ntmps106
      go_wp2_with fail
      refine (CK.out _).mono ?_
      rintro e w2 ⟨rfl, hb2⟩
      have B2 := Lib.hid (below_then ((Below.refl _ _).alloc (Nat.le_refl _) (.cells #[.int .i64 c.st, .string c.d] 35)) hb2 (by simp))
      clear hb2 CK
      go_wp2_with fail
      refine (CV.out _).mono ?_
      rintro e w3 ⟨rfl, hb3⟩
      have B3 := Lib.hid (below_then B2.out hb3 B2.out.size)
      clear hb3 B2 CV
      go_wp2_with fail
      refine (CI.out _).mono ?_
      rintro e w4 ⟨rfl, rfl⟩
      by_cases hk : 1 ≤ n ∧ n < 1024
      · rw [decide_eq_true (show 1 ≤ (n : Int) ∧ (n : Int) < 1024 by omega)]
        have hC := HC.out.1 hk
        subst hC
        clear HC
        go_wp2
        go_ret
        exact ⟨rfl, B3.out⟩
      · rw [decide_eq_false (show ¬ (1 ≤ (n : Int) ∧ (n : Int) < 1024) by omega)]
        have hC := HC.out.2 hk
        subst hC
        clear HC
        go_wp2
        go_ret
        exact ⟨rfl, B3.out⟩
    · have hC := HCN.out fun k => h4 k.2.1
      subst hC
      have h4' : ((R.size : Int) != 4) = true := by simp; omega
      clear HCS HCN h4
      go_enter Tryz.func106, Tryz.ntmps106
      go_wp2_with fail
      refine (CK.out _).mono ?_
      rintro e w2 ⟨rfl, hb2⟩
      have B2 := Lib.hid (below_then ((Below.refl _ _).alloc (Nat.le_refl _) (.cells #[.int .i64 c.st, .string c.d] 35)) hb2 (by simp))
      clear hb2 CK
      go_wp2
      go_ret
      exact ⟨rfl, B2.out⟩
  · rw [decide_eq_false hy] at ck
    have CK := Lib.hid ck
    have hC := HCN.out fun k => hy k.1
    clear ck hy
    generalize Ce.key c = K at *
    generalize Ce.rst c = R at *
    generalize Ce.child c = C at *
    subst hC
    clear HCS HCN
    go_enter Tryz.func106, Tryz.ntmps106
    go_wp2_with fail
    refine (CK.out _).mono ?_
    rintro e w2 ⟨rfl, hb2⟩
    have B2 := Lib.hid (below_then ((Below.refl _ _).alloc (Nat.le_refl _) (.cells #[.int .i64 c.st, .string c.d] 35)) hb2 (by simp))
    clear hb2 CK
    go_wp2
    go_ret
    exact ⟨rfl, B2.out⟩
end Go.Proofs.YtelbioooggnbiaaGreat
