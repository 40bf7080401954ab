/- Entries of one's own, as they lie. -/
import Derived.Test.YtplcddcdhnjfeaaWalPre
set_option linter.unusedVariables false
set_option linter.unusedSimpArgs false
namespace Go.Proofs.Ytplcddcdhnjfeaa
open Go.RowKit

def plAt (a : Nat) (l : List ByteArray) (i : Nat) : Nat := (plcFrom a l).getD i 0
def rcAt (l : List ByteArray) (i : Nat) : ByteArray := l.getD i ⟨#[]⟩
theorem enL_get : ∀ (l : List ByteArray) (a i : Nat), i < l.length → (enL a l)[i * 2]? = some (.int .i64 (plAt a l i : Int)) ∧ (enL a l)[i * 2 + 1]? = some (.string (rcAt l i))
  | [], a, i, h => absurd h (Nat.not_lt_zero i)
  | x :: l, a, 0, h => ⟨rfl, rfl⟩
  | x :: l, a, i + 1, h => by
    have ih := enL_get l (a + (2 + x.size)) i (by simpa using h)
    have e : enL a (x :: l) = .int .i64 (a : Int) :: .string x :: enL (a + (2 + x.size)) l := rfl
    rw [e, show (i + 1) * 2 = i * 2 + 1 + 1 by omega]
    exact ih
theorem plAt_take : ∀ (l : List ByteArray) (a k i : Nat), i < k → plAt a (l.take k) i = plAt a l i
  | [], a, k, i, h => by simp [plAt]
  | x :: l, a, 0, i, h => absurd h (Nat.not_lt_zero i)
  | x :: l, a, k + 1, 0, h => rfl
  | x :: l, a, k + 1, i + 1, h => plAt_take l (a + (2 + x.size)) k i (by omega)
theorem rcAt_take (l : List ByteArray) (k i : Nat) (h : i < k) : rcAt (l.take k) i = rcAt l i := by
  unfold rcAt
  rw [List.getD_eq_getElem?_getD, List.getD_eq_getElem?_getD, List.getElem?_take_of_lt h]
theorem Ev.of_owns {w : World} {B : Nat} {v : Value} {a : Nat} {l : List ByteArray} (h : w.ownsRow B 40 2 v l.length (enL a l)) : Ev w w.heap.size v l.length (plAt a l) (rcAt l) := by
  rcases h.2 with ⟨rfl, h0⟩ | ⟨g, cap, cur, rfl, hg, hh, hn, hm, r⟩
  · exact ⟨none, 0, by rw [h0], by omega, fun h => by omega⟩
  · refine ⟨_, cap, rfl, hn, fun h0 => ⟨g, 0, rfl, ?_, fun i hi => ?_⟩⟩
    · rcases Nat.lt_or_ge g w.heap.size with k | k
      · exact k
      · rw [Array.getElem?_eq_none k] at hh; cases hh
    · obtain ⟨e0, e1⟩ := enL_get l a i hi
      have c0 := h.cells (g := g) rfl (i * 2) _ e0
      have c1 := h.cells (g := g) rfl (i * 2 + 1) _ e1
      rw [Addr.add_lit] at c0 c1
      exact ⟨c0, by rw [Nat.add_assoc]; exact c1⟩
end Go.Proofs.Ytplcddcdhnjfeaa
