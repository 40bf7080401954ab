/- Both devices, side by side: what a call to each leaves. -/
import Derived.Test.YtlbpbegnknpckaaDskRunsRead
set_option linter.unusedVariables false
set_option linter.unusedSimpArgs false
namespace Go.Proofs.Ytlbpbegnknpckaa
open Go.RowKit

theorem ij_apart {w : World} {B B' : Nat} {I : Ids} {J : Rds} {S T : Dsk} (d : Dk w B I S) (r : Rk w B' J T) (apart : I.f ≠ J.f ∧ I.n ≠ J.f) : ∀ k, I.foot k → ¬ J.foot k := by
  intro k hi hj
  rcases hj with rfl | rfl | hj
  · rcases hi with e | e | e | e
    · exact r.box.ne_ d.box (by decide) e
    · exact d.firm.ne_bk r.box (by decide) e.symm
    · exact d.now.ne_bk r.box (by decide) e.symm
    · obtain ⟨_, _, cur, hc⟩ := owns_block d.pend e
      exact hc.ne_ r.box (by decide) rfl
  · rcases hi with e | e | e | e
    · exact r.firm.ne_bk d.box (by decide) e
    · exact apart.1 e.symm
    · exact apart.2 e.symm
    · obtain ⟨_, _, cur, hc⟩ := owns_block d.pend e
      exact r.firm.ne_bk hc (by decide) rfl
  · obtain ⟨_, _, cur, hc⟩ := owns_block r.pend hj
    rcases hi with e | e | e | e
    · exact hc.ne_ d.box (by decide) e
    · exact d.firm.ne_bk hc (by decide) e.symm
    · exact d.now.ne_bk hc (by decide) e.symm
    · obtain ⟨_, _, cur2, hc2⟩ := owns_block d.pend e
      exact hc.ne_ hc2 (by decide) rfl

theorem owns_low {w : World} {base base' : Nat} {e : TypeId} {size : Nat} {v : Value} {n : Nat} {xs : List Value} (h : w.ownsRow base e size v n xs) (hb : base' ≤ base) : w.ownsRow base' e size v n xs := by
  obtain ⟨h1, h2⟩ := h
  refine ⟨h1, ?_⟩
  rcases h2 with h2 | ⟨g, cap, cur, e1, e2, e3⟩
  · exact .inl h2
  · exact .inr ⟨g, cap, cur, e1, Nat.le_trans hb e2, e3⟩
theorem Dk.low {w : World} {B B' : Nat} {I : Ids} {S : Dsk} (h : Dk w B I S) (hb : B' ≤ B) : Dk w B' I S :=
  ⟨h.box, h.firm, h.now, owns_low h.pend hb, h.ne, Nat.le_trans hb h.bg, Nat.le_trans hb h.bf, Nat.le_trans hb h.bn, h.ok⟩
theorem Rk.low {w : World} {B B' : Nat} {I : Rds} {S : Dsk} (h : Rk w B I S) (hb : B' ≤ B) : Rk w B' I S :=
  ⟨h.box, h.firm, owns_low h.pend hb, Nat.le_trans hb h.bg, Nat.le_trans hb h.bf, h.ok⟩

variable {w0 w : World} {B : Nat} {I : Ids} {J : Rds} {S : Dsk}
theorem Two.size (h : Two w0 w B I J S) : B ≤ w.heap.size := by have := h.d.bg; have := h.d.box.lt; omega
theorem Two.kept {w1 : World} (h : Two w0 w B I J S) (hb : Below w.heap.size w w1) : Two w0 w1 B I J S :=
  ⟨h.d.kept hb, h.r.kept hb, below_then h.bel hb (Nat.le_trans h.hB h.size), h.hB, h.apart, h.now⟩
/-- The reference's device behind what the device itself did. -/
theorem Two.r_on {w1 w2 : World} (h : Two w0 w B I J S) (o1 : Out w w1 I.foot) (hb : Below w1.heap.size w1 w2) : Rk w2 B J S :=
  (h.r.out o1 fun k hj hi => ij_apart h.d h.r h.apart k hi hj).kept hb
theorem Two.both {w1 w2 w3 : World} {I' : Ids} {J' : Rds} {T : Dsk} (h : Two w0 w B I J S) (hd : Dk w1 B I' T) (o1 : Out w w1 I.foot) (hb : Below w1.heap.size w1 w2) (hr : Rk w3 B J' T) (o2 : Out w2 w3 J.foot)
    (e : I'.f = I.f ∧ I'.n = I.n ∧ J'.f = J.f) (hn : T.now = apply T.firm T.pend) : Two w0 w3 B I' J' T := by
  have hr2 := h.r_on o1 hb
  have hd2 := hd.kept hb
  have ap : I'.f ≠ J.f ∧ I'.n ≠ J.f := by rw [e.1, e.2.1]; exact h.apart
  have ap' : I'.f ≠ J'.f ∧ I'.n ≠ J'.f := by rw [e.2.2]; exact ap
  refine ⟨hd2.out o2 (ij_apart hd2 hr2 ap), hr, ?_, h.hB, ap', hn⟩
  have b1 : Below w0.heap.size w0 w1 := h.bel.trans ((o1.below h.size (fun k hk => (h.d.foot_lt hk).1)).mono h.hB)
  have b2 := below_then b1 hb (by have := b1.size; exact this)
  exact b2.trans ((o2.below (Nat.le_trans h.size (Nat.le_trans o1.size hb.size)) (fun k hk => (hr2.foot_lt hk).1)).mono h.hB)

/-- What the round knows: both devices, at most k writes pending. -/
structure Rn (w0 w : World) (B : Nat) (I : Ids) (J : Rds) (S : Dsk) (c k : Nat) : Prop where
  two : Two w0 w B I J S
  len : S.firm.length = c
  pend : S.pend.length ≤ k
theorem Rn.kept {c k : Nat} {w1 : World} (h : Rn w0 w B I J S c k) (hb : Below w.heap.size w w1) : Rn w0 w1 B I J S c k := ⟨h.two.kept hb, h.len, h.pend⟩
theorem write_len (S : Dsk) (i : Int) (d : ByteArray) : (S.write i d).1.firm.length = S.firm.length ∧ (S.write i d).1.pend.length ≤ S.pend.length + 1 := by
  unfold Dsk.write
  split
  · exact ⟨rfl, Nat.le_succ _⟩
  · split
    · split
      · exact ⟨rfl, Nat.le_succ _⟩
      · exact ⟨rfl, by simp [Dsk.wrote]⟩
    · exact ⟨rfl, Nat.le_succ _⟩
theorem barrier_len (S : Dsk) : S.barrier.1.firm.length = S.firm.length ∧ S.barrier.1.pend.length ≤ S.pend.length := by
  unfold Dsk.barrier
  split
  · exact ⟨rfl, Nat.le_refl _⟩
  · split
    · exact ⟨rfl, Nat.le_refl _⟩
    · exact ⟨apply_length _ _, Nat.zero_le _⟩
theorem crash_len (S : Dsk) (m : Nat) (kb : Nat → Bool) : (S.crash m kb).firm.length = S.firm.length ∧ (S.crash m kb).pend = [] ∧ (S.crash m kb).now = apply (S.crash m kb).firm (S.crash m kb).pend :=
  ⟨keepTo_length .., rfl, rfl⟩
end Go.Proofs.Ytlbpbegnknpckaa
