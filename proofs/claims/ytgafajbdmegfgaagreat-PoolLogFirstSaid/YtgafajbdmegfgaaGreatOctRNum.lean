/- The walk of the document's own Num: it appends byte by byte. -/
import Derived.Test.YtgafajbdmegfgaaGreatProg
import Derived.Test.YtgafajbdmegfgaaGreatOctPlain
import Derived.WalkKit
import Derived.WalkSpells
import Derived.WalkLawsBesides
import Derived.Lib.Hide
set_option linter.unusedVariables false
set_option linter.unusedSimpArgs false
namespace Go.Proofs.YtgafajbdmegfgaaGreat
open Go.RowKit

theorem Tryz.rinfo5 : (Tryz.prog.info? 5).map (fun i => (i.zero, i.size, i.bytes)) = some (some (.int .u8 0), 1, 1) := by kernel_rfl

set_option maxHeartbeats 400000 in
theorem rnum_bad (n width : Int) (w : World) (h : width < 1 ∨ 8 < width) :
    Calls Tryz.prog 79 #[.int .u64 n, .int .i64 width] w fun e w' => e = .returned (.tuple #[.string ⟨#[]⟩, .bool false]) ∧ Below w.heap.size w w' := by
  rcases h with h | h
  · go_enter Tryz.func79, Tryz.ntmps79
    go_wp2
    go_ret2
    exact ⟨rfl, Below.refl _ _⟩
  · have h' : ¬ width < 1 := by omega
    go_enter Tryz.func79, Tryz.ntmps79
    go_wp2
    go_ret2
    exact ⟨rfl, Below.refl _ _⟩

theorem rnum_step (base : Nat) {w1 : World} {v : Value} {n k : Nat} {t : TypeId} {c : Int} (hc : c = ((Oct.rest n k % 256 : Nat) : Int)) (h : w1.ownsRow base t 1 v (k + 1) (Oct.vals n k ++ [.int .u8 c])) :
    w1.ownsRow base t 1 v (k + 1) (Oct.vals n (k + 1)) := by
  subst hc
  rw [Oct.vals_succ]
  exact h

set_option maxHeartbeats 400000 in
set_option maxRecDepth 100000 in
theorem rnum_good (n width : Nat) (w : World) (h1 : 1 ≤ width) (h2 : width ≤ 8) (hn : n < 18446744073709551616) :
    Calls Tryz.prog 79 #[.int .u64 n, .int .i64 width] w fun e w' => e = .returned (.tuple #[.string (Oct.str n width), .bool (Oct.rest n width == 0)]) ∧ Below w.heap.size w w' := by
  have Hn := Lib.hid hn; clear hn
  obtain ⟨i0, hi, hz0, hz1, hz2⟩ := info_parts Tryz.rinfo5
  go_enter Tryz.func79, Tryz.ntmps79
  go_wp2
  go_loopw [0, 6, 7] (fun a v i wr => ∃ k : Nat, k ≤ width ∧ i = .int .i64 k ∧ a = .int .u64 (Oct.rest n k : Nat) ∧ wr.ownsRow w.heap.size 5 1 v k (Oct.vals n k) ∧ Below w.heap.size w wr) (fun _ _ i _ => width - (RowKit.intOf i).toNat)
  case atStart => exact ⟨0, Nat.zero_le _, rfl, by rw [Oct.rest_zero], by exact ⟨rfl, .inl ⟨rfl, rfl⟩⟩, Below.refl _ _⟩
  case round =>
    obtain ⟨k, hk, rfl, rfl, hown, hbel⟩ := hrel
    by_cases hlt : k < width
    · go_wp2_with (at_builtin; refine wpList_append_own _ rfl _ _ 63 rfl w.heap.size 5 i0 (.int .u8 0) 1 1 Tryz.underlying63 hi hz0 hz1 hz2 rfl (by decide) _ _ _ rfl (hown.alloc _) ⟨_, 0, none⟩ 1 1 [.int .u8 ((Oct.rest n k : Int) % 256)] rfl rfl ?c1 ?c2 ?c3 ?c4 ?c5 ?_)
      case c1 => exact cell_one_new _ _ _
      case c2 => simp [Value.oneCell']
      case c3 => unfold maxLen; omega
      case c4 => omega
      case c5 => have := hbel.size; simp; omega
      intro v' w1 hown1 hgrow _
      have hown2 := rnum_step w.heap.size (by simp) hown1
      have hb2 : Below w.heap.size w w1 := (hbel.alloc hbel.size _).grown hgrow (by have := hbel.size; simp; omega) (fun g hg => (hown.lt g hg).1)
      clear hown1 hgrow
      go_wp2
      go_roundw
      case rel => exact ⟨k + 1, by omega, by go_num, by rw [Oct.quo_step n k Hn.out], hown2, hb2⟩
      case measure => simp [RowKit.intOf]; omega
    · obtain rfl : k = width := by omega
      have hst := Oct.run_string_own (P := Tryz.prog) _ 63 9 5 w.heap.size _ _ ((Oct.bs n k).map Int.ofNat) Tryz.underlying63 Tryz.underlying5 Tryz.underlying9 hown
      rw [Oct.str_eq] at hst
      go_wp2
      go_ret2
      refine ⟨?_, hbel⟩
      have e : ((Oct.rest n k : Int) == 0) = (Oct.rest n k == 0) := by
        by_cases h : Oct.rest n k = 0
        · simp [h]
        · have : ((Oct.rest n k : Int) == 0) = false := by simp; omega
          rw [this]; simp [h]
      rw [← e]
      rfl
end Go.Proofs.YtgafajbdmegfgaaGreat
