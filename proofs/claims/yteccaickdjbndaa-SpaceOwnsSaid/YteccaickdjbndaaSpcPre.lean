/- What the laws of stage 14 begin with. -/
import Derived.Test.YteccaickdjbndaaSpcVol
set_option linter.unusedVariables false
set_option linter.unusedSimpArgs false
namespace Go.Proofs.Yteccaickdjbndaa
open Go.RowKit Go.Maps

theorem sv_zero {w : World} {B g b m gs r N : Nat} (h : SS w B g b m gs r (List.replicate N Pg.zero) []) : SV w B g b gs r N m pz pz := by
  have := sv_made (und := pz) h (fun id hid => by
    rw [List.length_replicate] at hid
    rw [List.getD_eq_getElem?_getD, List.getElem?_replicate, if_pos hid]
    show pgB Pg.zero Pg.zero = true
    exact pgB_self _)
  rw [List.length_replicate] at this
  exact this
/-- The first place that is free: known by its two facts. -/
theorem first_eq {p : Nat → Prop} {i j : Nat} (hi : p i) (hj : p j) (h1 : ∀ q, q < i → ¬ p q) (h2 : ∀ q, q < j → ¬ p q) : i = j := by
  rcases Nat.lt_trichotomy i j with h | h | h
  · exact absurd hi (h2 i h)
  · exact h
  · exact absurd hj (h1 j h)
end Go.Proofs.Yteccaickdjbndaa
