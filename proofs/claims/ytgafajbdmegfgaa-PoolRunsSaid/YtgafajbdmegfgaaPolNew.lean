/- Layer 12: New; what is refused. -/
import Derived.Test.YtgafajbdmegfgaaPolFlush
set_option linter.unusedVariables false
set_option linter.unusedSimpArgs false
namespace Go.Proofs.Ytgafajbdmegfgaa
open Go.RowKit

set_option maxRecDepth 100000 in
set_option maxHeartbeats 4000000 in
theorem pnew_good {w : World} {B : Nat} {I : Wd} {L : Lg} {S : Dsk} (hW : Wl w B I L S) (base pages frames : Nat) (h1 : 1 ≤ pages) (h2 : pages ≤ 1024) (h3 : 4 ≤ frames) (h4 : frames ≤ 256) (hfit : base + 4 * pages ≤ S.firm.length) (hB : B ≤ w.heap.size) :
    Calls Try.prog 10 #[I.d.ptr, I.ptr, .int .i64 (base : Int), .int .i64 (pages : Int), .int .i64 (frames : Int)] w fun e w' =>
      ∃ g, e = .returned (.tuple #[.pointer (some ⟨g, 0, none⟩), .int .i64 0]) ∧ Pq w' B ⟨g, .slice none 0 0, [], I.d.ptr, I.ptr⟩ ⟨base, pages, frames, [], 0⟩ ∧ Below w.heap.size w w' := by
  have CS := Lib.hid (size_any hW.dsk)
  have most := hW.dsk.ok.most
  obtain ⟨m, hm⟩ : ∃ m, m = S.firm.length := ⟨_, rfl⟩
  rw [← hm] at CS most hfit
  have a1 : ¬ (pages : Int) < 1 := by omega
  have a2 : ¬ (1024 : Int) < (pages : Int) := by omega
  have a3 : ¬ (frames : Int) < 4 := by omega
  have a4 : ¬ (256 : Int) < (frames : Int) := by omega
  have a5 : ¬ (base : Int) < 0 := by omega
  have a6 : ¬ (m : Int) - 4 * (pages : Int) < (base : Int) := by omega
  have b1 : decide ((pages : Int) < 1) = false := decide_eq_false a1
  have b2 : decide ((1024 : Int) < (pages : Int)) = false := decide_eq_false a2
  have b3 : decide ((frames : Int) < 4) = false := decide_eq_false a3
  have b4 : decide ((256 : Int) < (frames : Int)) = false := decide_eq_false a4
  have b5 : decide ((base : Int) < 0) = false := decide_eq_false a5
  have b6 : decide ((m : Int) - 4 * (pages : Int) < (base : Int)) = false := decide_eq_false a6
  have HB := Lib.hid hB
  have POK := Lib.hid (show Po.ok ⟨base, pages, frames, [], 0⟩ from { b0 := by show base ≤ 16384; omega, p1 := h1, p2 := h2, f1 := h3, f2 := h4, len := Nat.zero_le _, hand := .inl rfl, ids := fun s hs => absurd hs List.not_mem_nil, stb := fun s hs => absurd hs List.not_mem_nil, one := fun i j hi => absurd hi (Nat.not_lt_zero i) })
  obtain ⟨gI, d, dv, pv⟩ := I
  unfold Wd.ptr Ids.ptr at *
  dsimp only at *
  clear hW hm
  go_enter Try.func10, Try.ntmps10
  go_wp2_with fail
  refine CS.out.mono ?_
  rintro e w1 ⟨rfl, rfl⟩
  clear CS
  have K1 := Lib.hid (Bk.new w1 75 ((⟨w1.heap.size, .slice none 0 0, [], .pointer (some ⟨d.g, 0, none⟩), .pointer (some ⟨gI, 0, none⟩)⟩ : Pd).box ⟨base, pages, frames, [], 0⟩))
  go_wp2
  refine bodyPost_ret (v := .tuple #[.pointer (some ⟨w1.heap.size, 0, none⟩), .int .i64 0]) (by simp [results, Try.results10, go_sem]) rfl ?_
  refine ⟨w1.heap.size, rfl, ?_, (Below.refl _ _).alloc (Nat.le_refl _) _⟩
  exact { box := K1.out, bg := HB.out, row := World.ownsRow_nil _ _ _ _, bl := rfl, sl := fun j hb => absurd hb (Nat.not_lt_zero j), bb := fun b hb => absurd hb List.not_mem_nil, nd := List.nodup_nil, ok := POK.out }
set_option maxRecDepth 100000 in
set_option maxHeartbeats 4000000 in
theorem pnew_bad (dp lp : Nat) (base pages frames : Int) (w : World) (h : pages < 1 ∨ (1 ≤ pages ∧ pages ≤ 1024) ∧ (frames < 4 ∨ 4 ≤ frames ∧ 256 < frames)) :
    Calls Try.prog 10 #[.pointer (some ⟨dp, 0, none⟩), .pointer (some ⟨lp, 0, none⟩), .int .i64 base, .int .i64 pages, .int .i64 frames] w fun e w' => e = .returned (.tuple #[.pointer none, .int .i64 1]) ∧ w' = w := by
  rcases h with h | ⟨⟨h1, h2⟩, h | ⟨h3, h⟩⟩
  · have b1 : decide (pages < 1) = true := decide_eq_true h
    go_enter Try.func10, Try.ntmps10
    go_wp2
    exact bodyPost_ret (v := .tuple #[.pointer none, .int .i64 1]) (by simp [results, Try.results10, go_sem]) rfl ⟨rfl, rfl⟩
  · have a1 : ¬ pages < 1 := by omega
    have a2 : ¬ 1024 < pages := by omega
    have b1 : decide (pages < 1) = false := decide_eq_false a1
    have b2 : decide (1024 < pages) = false := decide_eq_false a2
    have b3 : decide (frames < 4) = true := decide_eq_true h
    go_enter Try.func10, Try.ntmps10
    go_wp2
    exact bodyPost_ret (v := .tuple #[.pointer none, .int .i64 1]) (by simp [results, Try.results10, go_sem]) rfl ⟨rfl, rfl⟩
  · have a1 : ¬ pages < 1 := by omega
    have a2 : ¬ 1024 < pages := by omega
    have a3 : ¬ frames < 4 := by omega
    have b1 : decide (pages < 1) = false := decide_eq_false a1
    have b2 : decide (1024 < pages) = false := decide_eq_false a2
    have b3 : decide (frames < 4) = false := decide_eq_false a3
    have b4 : decide (256 < frames) = true := decide_eq_true h
    go_enter Try.func10, Try.ntmps10
    go_wp2
    exact bodyPost_ret (v := .tuple #[.pointer none, .int .i64 1]) (by simp [results, Try.results10, go_sem]) rfl ⟨rfl, rfl⟩
end Go.Proofs.Ytgafajbdmegfgaa
