/- Heads of entries; the walk of prefix. -/
import Derived.Test.YtplcddcdhnjfeaaWalSame
set_option linter.unusedVariables false
set_option linter.unusedSimpArgs false
namespace Go.Proofs.Ytplcddcdhnjfeaa
open Go.RowKit

theorem Ev.mono {w : World} {B B' : Nat} {v : Value} {m : Nat} {fa : Nat → Nat} {fb : Nat → ByteArray} (h : Ev w B v m fa fb) (hB : B ≤ B') : Ev w B' v m fa fb := by
  obtain ⟨a, c, e, hc, h⟩ := h
  refine ⟨a, c, e, hc, fun hm => ?_⟩
  obtain ⟨b, off, e1, hlt, hc⟩ := h hm
  exact ⟨b, off, e1, by omega, hc⟩
theorem ensElem : Try.prog.underlying 36 = some (.slice (Try.prog.elem 36)) ∧ Try.prog.elem 36 = 40 := by
  have he : Try.prog.elem 36 = 40 := by simp [Program.elem, Try.underlying36]
  exact ⟨by rw [he]; exact Try.underlying36, he⟩
theorem sz2 (w : World) : (Go.sizeOf 40).run Try.prog w = .ok 2 w := by kernel_rfl
theorem Ev.head {w : World} {B : Nat} {v : Value} {m : Nat} {fa : Nat → Nat} {fb : Nat → ByteArray} (h : Ev w B v m fa fb) (k : Nat) (hk : k ≤ m) :
    ∃ a c, (∀ W, (Instr.slice 36 v none (some (.int .i64 k)) none).run Try.prog W = .ok (.slice a k c) W) ∧ Ev w B (.slice a k c) k fa fb := by
  obtain ⟨a, c, rfl, hmc, h⟩ := h
  refine ⟨if c = 0 then a else a.map (fun p => p.add 0), c, fun W => ?_, _, _, rfl, by omega, fun h0 => ?_⟩
  · have := run_slice_h (P := Try.prog) (w := W) 36 a m c ensElem.1 .i64 k (by omega) (by omega)
    rw [ensElem.2, sz2] at this
    rw [this]
    cases a <;> simp [Result.andThen, sliced, Addr.add_lit]
  · obtain ⟨b, off, e1, hlt, hc⟩ := h (by omega)
    exact ⟨b, off, by rw [if_neg (by omega), e1]; simp [Addr.add_lit], hlt, fun i hi => hc i (by omega)⟩

set_option maxRecDepth 100000 in
set_option maxHeartbeats 4000000 in
theorem prefix_any (w : World) (v u : Value) (m k : Nat) (fa ga : Nat → Nat) (fb gb : Nat → ByteArray) (hA : Ev w w.heap.size v m fa fb) (hB : Ev w w.heap.size u k ga gb) (hm : m ≤ 9223372036854775807) (least : Int)
    (h1 : least ≤ k) (h2 : k ≤ m) (h3 : ∀ i, i < k → fa i = ga i ∧ fb i = gb i) :
    Calls Try.prog 16 #[v, u, .int .i64 least] w fun e w' => e = .returned (.bool true) ∧ Below w.heap.size w w' := by
  obtain ⟨a, c, hs, hE⟩ := hA.head k h2
  have CS := Lib.hid (sameEv_any w (.slice a k c) u k k fa ga fb gb hE hB (by omega) (by omega) True ⟨fun _ => ⟨rfl, h3⟩, fun _ => trivial⟩)
  obtain ⟨ai, ci, rfl, -, -⟩ := hA
  obtain ⟨bi, di, rfl, -, -⟩ := hB
  clear hE h3
  go_enter Try.func16, Try.ntmps16
  go_wp2_with fail
  refine CS.out.mono ?_
  rintro e w1 ⟨⟨rfl, -⟩ | ⟨-, hn⟩, hb⟩
  · go_wp2
    go_ret
    exact ⟨rfl, hb⟩
  · exact absurd trivial hn
end Go.Proofs.Ytplcddcdhnjfeaa
