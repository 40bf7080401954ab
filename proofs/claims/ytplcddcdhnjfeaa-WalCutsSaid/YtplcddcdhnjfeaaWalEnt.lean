/- A row of entries of one's own, while a log and its device go on beside it. -/
import Derived.Test.YtplcddcdhnjfeaaWalThy8
import Derived.Test.YtplcddcdhnjfeaaWalRead
import Derived.Test.YtplcddcdhnjfeaaWalEv
import Derived.Test.YtplcddcdhnjfeaaWalRm
set_option linter.unusedVariables false
set_option linter.unusedSimpArgs false
namespace Go.Proofs.Ytplcddcdhnjfeaa
open Go.RowKit

section
variable {w w' : World} {B B' : Nat} {I : Wd} {L : Lg} {S : Dsk} {v : Value} {n : Nat} {xs : List Value}
theorem ent_app (hW : Wl w B I L S) (h : w.ownsRow B' 40 2 v n xs) (ho : AppOut w w' I) : w'.ownsRow B' 40 2 v n xs :=
  owns_of_block h fun k hk => by
    obtain ⟨_, hlk, cur, hb⟩ := owns_block h hk
    refine ho.block k hlk ?_
    rintro (rfl | h | h)
    · exact Bk.ne_ hb hW.box (by decide) rfl
    · obtain ⟨_, _, c, hc⟩ := owns_block hW.plc h
      exact Bk.ne_ hb hc (by decide) rfl
    · obtain ⟨_, _, c, hc⟩ := owns_block hW.dat h
      exact Bk.ne_ hb hc (by decide) rfl
theorem ent_df (hW : Wl w B I L S) (h : w.ownsRow B' 40 2 v n xs) (ho : Out w w' (I.df B w)) : w'.ownsRow B' 40 2 v n xs :=
  owns_of_block h fun k hk => by
    obtain ⟨_, hlk, cur, hb⟩ := owns_block h hk
    refine ho.block k hlk ?_
    rintro (rfl | rfl | rfl | rfl | ⟨_, cur2, hc2⟩)
    · exact Bk.ne_ hb hW.box (by decide) rfl
    · exact Bk.ne_ hb hW.dsk.box (by decide) rfl
    · exact hW.dsk.firm.ne_bk hb (by decide) rfl
    · exact hW.dsk.now.ne_bk hb (by decide) rfl
    · exact Bk.ne_ hb hc2 (by decide) rfl
theorem ent_foot {I : Ids} (hD : Dk w B I S) (h : w.ownsRow B' 40 2 v n xs) (ho : Out w w' I.foot) : w'.ownsRow B' 40 2 v n xs :=
  owns_of_block h fun k hk => by
    obtain ⟨_, hlk, cur, hb⟩ := owns_block h hk
    refine ho.block k hlk ?_
    rintro (rfl | rfl | rfl | hk2)
    · exact Bk.ne_ hb hD.box (by decide) rfl
    · exact hD.firm.ne_bk hb (by decide) rfl
    · exact hD.now.ne_bk hb (by decide) rfl
    · obtain ⟨_, _, c, hc⟩ := owns_block hD.pend hk2
      exact Bk.ne_ hb hc (by decide) rfl
theorem ent_under {e : TypeId} {size Bc : Nat} (h : w.ownsRow B e size v n xs) (lt : ∀ k, v.ownBlock = some k → k < Bc) (hb : Below Bc w w') : w'.ownsRow B e size v n xs :=
  owns_of_block h fun k hk => hb.block k (lt k hk)
theorem own_lt {e : TypeId} {size : Nat} (h : w.ownsRow B e size v n xs) : ∀ k, v.ownBlock = some k → k < w.heap.size := fun k hk => (owns_block h hk).2.1
theorem Wl.egrown {row : Option Nat} (h : Wl w B I L S) (hg : w.grownBy w' row) (hr : ∀ k, row = some k → ∃ cur, Bk w k 40 cur) : Wl w' B I L S :=
  ⟨h.box.grown hg (fun e => by obtain ⟨cur, hc⟩ := hr _ e.symm; exact Bk.ne_ h.box hc (by decide) rfl), h.bg,
    h.dsk.grown hg (fun j hj => by obtain ⟨cur, hc⟩ := hr j hj; exact ⟨_, cur, hc, by decide, by decide, by decide⟩),
    own_grown h.dat hg hr (by decide), own_grown h.plc hg hr (by decide), h.ok⟩
end
theorem Kb.mono {w : World} {B B' : Nat} {v : Value} {m : Nat} {kb : Nat → Bool} (h : Kb w B v m kb) (hB : B ≤ B') : Kb w B' v m kb := by
  obtain ⟨a, c, e, h⟩ := h
  refine ⟨a, c, e, fun hm => ?_⟩
  obtain ⟨b, off, e1, hlt, hc⟩ := h hm
  exact ⟨b, off, e1, by omega, hc⟩
/-- Below of a device's foot. -/
theorem foot_below {w w' : World} {B : Nat} {I : Ids} {S : Dsk} (h : Dk w B I S) (ho : Out w w' I.foot) (hB : B ≤ w.heap.size) : Below B w w' := by
  refine ho.below hB fun k hk => ?_
  rcases hk with rfl | rfl | rfl | hk
  · exact h.bg
  · exact h.bf
  · exact h.bn
  · exact (owns_block h.pend hk).1
/-- The flush of the last record that was laid. -/
theorem Wp.flush_last {L : Lg} {S : Dsk} {all : List ByteArray} {rec : ByteArray} {f : Nat} (h : Wp L S (all ++ [rec]) f) (at_ : Nat) (hat : at_ = 54 + total all) (hok : (L.flush S at_).1.ok) :
    Wp (L.flush S at_).1 (L.flush S at_).2.1 (all ++ [rec]) (if (L.flush S at_).2.2 = 0 then (all ++ [rec]).length else f) := by
  obtain ⟨a, b⟩ := h.flushed at_ hok
  by_cases c : (L.flush S at_).2.2 = 0
  · rw [if_pos c]
    refine b c fun g hg => ?_
    rw [List.length_append, List.length_singleton] at hg
    rw [List.take_append_of_le_length (by omega)]
    have := total_take all g
    omega
  · rw [if_neg c]; exact a
end Go.Proofs.Ytplcddcdhnjfeaa
