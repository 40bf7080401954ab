/- The directory's cells. -/
import Derived.Test.YtdhfcjplnbnkdaaSpcFmt
set_option linter.unusedVariables false
set_option linter.unusedSimpArgs false
namespace Go.Proofs.Ytdhfcjplnbnkdaa
open Go.RowKit

def FreePost (w : World) (p : Pg) (e : Ending) (w' : World) : Prop :=
  ((∀ i, i < 6 → (p.c i).st ≠ 0) ∧ e = .returned (.tuple #[.int .i64 0, .bool false]) ∧ Below w.heap.size w w') ∨
  (∃ i : Nat, i < 6 ∧ (p.c i).st = 0 ∧ (∀ q, q < i → (p.c q).st ≠ 0) ∧ e = .returned (.tuple #[.int .i64 i, .bool true]) ∧ Below w.heap.size w w')
set_option maxRecDepth 100000 in
set_option maxHeartbeats 2000000 in
theorem freeCell_any (p : Pg) (w : World) : Calls Try.prog 27 #[.agg p.cs] w (FreePost w p) := by
  have K := Lib.hid (Bk.new w 40 p.cs)
  have B0 := Lib.hid ((Below.refl w.heap.size w).alloc (Nat.le_refl _) (.cells p.cs 40))
  have NO := Lib.hid (fun (w' : World) (ha : ∀ i, i < 6 → (p.c i).st ≠ 0) (hb : Below w.heap.size w w') => show FreePost w p (.returned (.tuple #[.int .i64 0, .bool false])) w' from .inl ⟨ha, rfl, hb⟩)
  have YES := Lib.hid (fun (w' : World) (i : Nat) (h1 : i < 6) (h2 : (p.c i).st = 0) (h3 : ∀ q, q < i → (p.c q).st ≠ 0) (hb : Below w.heap.size w w') => show FreePost w p (.returned (.tuple #[.int .i64 i, .bool true])) w' from .inr ⟨i, h1, h2, h3, rfl, hb⟩)
  go_enter Try.func27, Try.ntmps27
  go_upto_region 1 with fail
  generalize w.alloc (.cells p.cs 40) = w0 at *
  obtain ⟨G, hG⟩ : ∃ G, G = w.heap.size := ⟨_, rfl⟩
  rw [← hG] at K ⊢
  clear hG
  go_wp2_with (refine load_cells rfl _ rfl G p rfl K.out ?_)
  go_loopw [8] (fun i wr => ∃ j : Nat, j ≤ 6 ∧ i = .int .i64 j ∧ (∀ q, q < j → (p.c q).st ≠ 0) ∧ Below w.heap.size w wr) (fun i _ => 6 - (intOf i).toNat)
  case atStart => exact ⟨0, Nat.zero_le _, rfl, (fun q hq => absurd hq (Nat.not_lt_zero q)), B0.out⟩
  case round =>
    obtain ⟨j, hj, rfl, ha, hb⟩ := hrel
    have A1 := Lib.hid ha; have B1 := Lib.hid hb
    clear ha hb B0 K
    by_cases hlt : j < 6
    · have HLT := Lib.hid hlt
      have B2 := Lib.hid (fun o => B1.out.alloc B1.out.size o)
      obtain ⟨cj, hcj⟩ : ∃ cj, cj = p.c j := ⟨_, rfl⟩
      have HC := Lib.hid hcj
      clear hcj
      by_cases hs : cj.st = 0
      · have S := Lib.hid (show (p.c j).st = 0 by rw [← HC.out]; exact hs)
        have hsb : (cj.st == 0) = true := by simp [hs]
        go_wp2_with (refine index_cells rfl _ _ rfl p.c j HLT.out rfl rfl ?_; rw [← HC.out])
        refine bodyPost_ret (v := .tuple #[.int .i64 j, .bool true]) (by simp [results, Try.results27, go_sem]) rfl ?_
        exact YES.out _ j HLT.out S.out A1.out (B2.out _)
      · have S := Lib.hid (show ∀ q, q < j + 1 → (p.c q).st ≠ 0 from fun q hq => by
          by_cases e : q = j
          · rw [e, ← HC.out]; exact hs
          · exact A1.out q (by omega))
        have hsb : (cj.st == 0) = false := by simp [hs]
        go_wp2_with (refine index_cells rfl _ _ rfl p.c j HLT.out rfl rfl ?_; rw [← HC.out])
        go_roundw
        case rel => exact ⟨j + 1, by have := HLT.out; omega, by go_num, S.out, B2.out _⟩
        case measure => have := HLT.out; simp [intOf]; omega
    · have hj6 : j = 6 := by omega
      subst hj6
      rw [show ((6 : Nat) : Int) = 6 from rfl]
      clear hlt hj
      go_wp2
      refine bodyPost_ret (v := .tuple #[.int .i64 0, .bool false]) (by simp [results, Try.results27, go_sem]) rfl ?_
      exact NO.out _ A1.out B1.out
/-- Is there such a store? -/
def thereP (p : Pg) (s : Int) : Prop := 1 ≤ s ∧ s ≤ 6 ∧ (p.c (s - 1).toNat).st ≠ 0
open Classical in
set_option maxRecDepth 100000 in
set_option maxHeartbeats 2000000 in
theorem there_any (p : Pg) (s : Int) (w : World) : Calls Try.prog 58 #[.agg p.cs, .int .i64 s] w fun e w' => e = .returned (.bool (decide (thereP p s))) ∧ Below w.heap.size w w' := by
  have K := Lib.hid (Bk.new w 40 p.cs)
  have B0 := Lib.hid ((Below.refl w.heap.size w).alloc (Nat.le_refl _) (.cells p.cs 40))
  obtain ⟨res, hres⟩ : ∃ res, res = decide (thereP p s) := ⟨_, rfl⟩
  rw [← hres]
  have HR := Lib.hid hres
  clear hres
  go_enter Try.func58, Try.ntmps58
  go_upto_region 1 with fail
  generalize w.alloc (.cells p.cs 40) = w0 at *
  obtain ⟨G, hG⟩ : ∃ G, G = w.heap.size := ⟨_, rfl⟩
  rw [← hG] at K ⊢
  clear hG
  by_cases h1 : (1 : Int) ≤ s
  · by_cases h2 : s ≤ (6 : Int)
    · obtain ⟨j, hj⟩ : ∃ j : Nat, s = j + 1 := ⟨(s - 1).toNat, by omega⟩
      have hj6 : j < 6 := by omega
      have hsj : s - 1 = (j : Int) := by omega
      have hji : (j : Int) < 6 := by omega
      obtain ⟨st, hst⟩ : ∃ st, st = (p.c j).st := ⟨_, rfl⟩
      have c0 : w0.cell? ⟨G, 4 + j * 2, none⟩ = some (.int .i64 st) := by
        rw [K.out.cell, hst]; rcases six hj6 with h | h | h | h | h | h <;> rw [h] <;> rfl
      have R := Lib.hid (show res = (st != 0) by
        rw [HR.out, hst]
        unfold thereP
        rw [hsj, Int.toNat_natCast]
        by_cases h : (p.c j).st = 0
        · simp [h]
        · simp [h, h1, h2])
      clear hst hj
      go_wp2
      go_ret
      exact ⟨by rw [R.out]; rfl, B0.out⟩
    · have R := Lib.hid (show res = false by rw [HR.out]; exact decide_eq_false fun h => h2 h.2.1)
      go_wp2
      go_ret
      exact ⟨by rw [R.out]; rfl, B0.out⟩
  · have R := Lib.hid (show res = false by rw [HR.out]; exact decide_eq_false fun h => h1 h.1)
    go_wp2
    go_ret
    exact ⟨by rw [R.out]; rfl, B0.out⟩
theorem format_nil (n : Int) (w : World) : Calls Try.prog 11 #[.pointer none, .int .i64 n] w fun e w' => e = .returned (.int .i64 1) ∧ w' = w := by
  go_enter Try.func11, Try.ntmps11
  go_wp2
  go_ret
  exact ⟨rfl, rfl⟩
theorem format_bad {g : Nat} (n : Int) (w : World) (h : n < 4 ∨ 1024 < n) : Calls Try.prog 11 #[.pointer (some ⟨g, 0, none⟩), .int .i64 n] w fun e w' => e = .returned (.int .i64 1) ∧ w' = w := by
  go_enter Try.func11, Try.ntmps11
  by_cases h1 : n < 4
  · go_wp2
    go_ret
    exact ⟨rfl, rfl⟩
  · have h2 : (1024 : Int) < n := by omega
    go_wp2
    go_ret
    exact ⟨rfl, rfl⟩
end Go.Proofs.Ytdhfcjplnbnkdaa
