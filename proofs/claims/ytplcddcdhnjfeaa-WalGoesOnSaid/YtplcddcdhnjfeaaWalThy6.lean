/- A device through a log's work: its size, its pending writes: plain. -/
import Derived.Test.YtplcddcdhnjfeaaWalThy5
set_option linter.unusedVariables false
set_option linter.unusedSimpArgs false
namespace Go.Proofs.Ytplcddcdhnjfeaa
open Go.RowKit

/-- Down, or nothing is pending; never much. -/
structure Qt (N : Nat) (S : Dsk) : Prop where
  len : S.firm.length = N
  up : S.down = true ∨ S.pend = []
  few : S.pend.length ≤ 5000
theorem write_len (S : Dsk) (i : Int) (d : ByteArray) : (S.write i d).1.firm = S.firm := by
  unfold Dsk.write
  split
  · rfl
  split
  · split <;> rfl
  · rfl
theorem barrier_len (S : Dsk) : S.barrier.1.firm.length = S.firm.length := by
  unfold Dsk.barrier
  split
  · rfl
  split
  · rfl
  · exact apply_length _ _
theorem barrier_qt (S : Dsk) : (S.barrier.2 = 0 ∧ S.barrier.1.pend = []) ∨ (S.barrier.1.down = true ∧ S.barrier.1.pend = S.pend ∧ S.barrier.2 ≠ 0) := by
  unfold Dsk.barrier
  by_cases h : S.down = true
  · rw [if_pos h]; exact .inr ⟨h, rfl, (by show (20 : Int) ≠ 0; decide)⟩
  rw [if_neg h]
  by_cases h0 : S.fuel = 0
  · rw [if_pos h0]; exact .inr ⟨rfl, rfl, (by show (20 : Int) ≠ 0; decide)⟩
  · rw [if_neg h0]; exact .inl ⟨rfl, rfl⟩
theorem write_in (S : Dsk) (i : Nat) (d : ByteArray) (hi : i < S.firm.length) (hd : d.size = 64) : ((S.write (i : Int) d).2 = 0 ∧ (S.write (i : Int) d).1.pend.length = S.pend.length + 1 ∧ S.down = false ∧ (S.write (i : Int) d).1.down = false) ∨ ((S.write (i : Int) d).2 ≠ 0 ∧ (S.write (i : Int) d).1.down = true ∧ (S.write (i : Int) d).1.pend = S.pend) := by
  unfold Dsk.write
  by_cases h : S.down = true
  · rw [if_pos h]; exact .inr ⟨(by show (20 : Int) ≠ 0; decide), h, rfl⟩
  have hf : S.down = false := by simpa using h
  rw [if_neg h, if_pos ⟨by omega, by omega, hd⟩]
  by_cases h0 : S.fuel = 0
  · rw [if_pos h0]; exact .inr ⟨(by show (20 : Int) ≠ 0; decide), rfl, rfl⟩
  · rw [if_neg h0]; exact .inl ⟨rfl, by simp [Dsk.wrote], hf, hf⟩
namespace Lg
theorem wr_qt (L : Lg) (hn : 1 ≤ L.n) : ∀ (m k : Nat) (S : Dsk), L.first + L.n ≤ S.firm.length →
    (L.wr m k S).1.firm = S.firm ∧ (((L.wr m k S).2 ≠ 0 ∧ (L.wr m k S).1.down = true) ∨ (L.wr m k S).2 = 0) ∧ (L.wr m k S).1.pend.length ≤ S.pend.length + m ∧ (S.down = true → (L.wr m k S).1 = S)
  | 0, k, S, h => ⟨rfl, .inr rfl, Nat.le_refl _, fun _ => rfl⟩
  | m + 1, k, S, h => by
    have hk : k % L.n < L.n := Nat.mod_lt _ hn
    have hw := write_in S (L.first + k % L.n) (L.sec k) (by omega) (L.sec_size k)
    have hl := write_len S ((L.first + k % L.n : Nat) : Int) (L.sec k)
    simp only [Lg.wr]
    rcases hw with ⟨e, p, d, u⟩ | ⟨e, d, p⟩
    · rw [if_pos e]
      obtain ⟨a, b, c, dd⟩ := wr_qt L hn m (k + 1) _ (by rw [hl]; exact h)
      exact ⟨a.trans hl, b, by omega, fun x => by rw [d] at x; cases x⟩
    · rw [if_neg e]
      exact ⟨hl, .inl ⟨e, d⟩, by rw [p]; omega, fun x => by unfold Dsk.write; rw [if_pos x]⟩
end Lg
theorem flush_qt {N : Nat} {L : Lg} {S : Dsk} (h : L.ok) (q : Qt N S) (hN : L.first + L.n ≤ N) (at_ : Int) : Qt N (L.flush S at_).2.1 ∧ ((L.flush S at_).1.start = L.start ∧ (L.flush S at_).1.first = L.first ∧ (L.flush S at_).1.n = L.n ∧ (L.flush S at_).1.data = L.data ∧ (L.flush S at_).1.fin = L.fin ∧ (L.flush S at_).1.places = L.places) ∧ ((L.flush S at_).2.2 ≠ 0 → (L.flush S at_).1 = L) := by
  have hr : L.rounds ≤ 4098 := by
    have a1 := h.sf; have a2 := h.fe; have a3 := h.rm; have a4 := h.n2
    have := flr_le L.start
    rw [flr_mul] at a3
    have : L.start / 54 ≤ L.firm / 54 := Nat.div_le_div_right a1
    unfold Lg.rounds
    omega
  have n1 := h.n1
  obtain ⟨w1, w2, w3, w4⟩ := L.wr_qt (by omega) L.rounds (L.firm / 54) S (by rw [q.len]; exact hN)
  have wl : (L.wr L.rounds (L.firm / 54) S).1.firm.length = N := by rw [w1]; exact q.len
  have wf : (L.wr L.rounds (L.firm / 54) S).1.pend.length ≤ 5000 := by
    rcases q.up with u | u
    · rw [w4 u]; exact q.few
    · rw [u] at w3; simp only [List.length_nil] at w3; omega
  unfold Lg.flush
  split
  · exact ⟨q, ⟨rfl, rfl, rfl, rfl, rfl, rfl⟩, fun _ => rfl⟩
  split
  · rename_i a
    refine ⟨⟨wl, ?_, wf⟩, ⟨rfl, rfl, rfl, rfl, rfl, rfl⟩, fun _ => rfl⟩
    rcases w2 with w2 | w2
    · exact .inl w2.2
    · exact absurd w2 a
  have bl := barrier_len (L.wr L.rounds (L.firm / 54) S).1
  have bq : Qt N (L.wr L.rounds (L.firm / 54) S).1.barrier.1 := by
    rcases barrier_qt (L.wr L.rounds (L.firm / 54) S).1 with ⟨_, b⟩ | ⟨b, c, _⟩
    · exact ⟨bl.trans wl, .inr b, by rw [b]; exact Nat.zero_le _⟩
    · exact ⟨bl.trans wl, .inl b, by rw [c]; exact wf⟩
  split
  · exact ⟨bq, ⟨rfl, rfl, rfl, rfl, rfl, rfl⟩, fun _ => rfl⟩
  · rename_i a
    exact ⟨bq, ⟨rfl, rfl, rfl, rfl, rfl, rfl⟩, fun b => absurd b a⟩
theorem wipe_qt {N : Nat} (L : Lg) : ∀ (m i : Nat) (S : Dsk), S.firm.length = N → L.first + (i + m) ≤ N → (L.wipeFrom m i S).1.firm.length = N ∧ (L.wipeFrom m i S).1.pend.length ≤ S.pend.length + m
  | 0, i, S, h, hi => ⟨(barrier_len S).trans h, by
    show S.barrier.1.pend.length ≤ _
    rcases barrier_qt S with ⟨_, b⟩ | ⟨_, b, _⟩ <;> rw [b] <;> simp⟩
  | m + 1, i, S, h, hi => by
    have hw := write_in S (L.first + i) (L.want i) (by omega) (want_size L i)
    have hl := write_len S ((L.first + i : Nat) : Int) (L.want i)
    simp only [Lg.wipeFrom]
    split
    · obtain ⟨a, b⟩ := wipe_qt L m (i + 1) S h (by omega)
      exact ⟨a, by omega⟩
    split
    · obtain ⟨a, b⟩ := wipe_qt (N := N) L m (i + 1) (S.write ((L.first + i : Nat) : Int) (L.want i)).1 (by rw [hl]; exact h) (by omega)
      refine ⟨a, ?_⟩
      rcases hw with ⟨_, p, _⟩ | ⟨_, _, p⟩
      · omega
      · rw [p] at b; omega
    · refine ⟨by rw [hl]; exact h, ?_⟩
      rcases hw with ⟨_, p, _⟩ | ⟨_, _, p⟩
      · omega
      · rw [p]; omega
theorem crash_len (S : Dsk) (m : Nat) (kb : Nat → Bool) : (S.crash m kb).firm.length = S.firm.length := keepTo_length _ _ _ _ _
/-- What a wipe with fuel for it tells. -/
theorem wipe_full {N : Nat} (L : Lg) : ∀ (m i : Nat) (S : Dsk), S.firm.length = N → L.first + (i + m) ≤ N → S.down = false → S.fuel = -1 → (L.wipeFrom m i S).2 = 0
  | 0, i, S, h, hi, hd, hf => by
    show S.barrier.2 = 0
    unfold Dsk.barrier
    rw [if_neg (by rw [hd]; simp), if_neg (by omega)]
  | m + 1, i, S, h, hi, hd, hf => by
    have e : S.write ((L.first + i : Nat) : Int) (L.want i) = (S.wrote (L.first + i) (L.want i), 0) := by
      unfold Dsk.write
      rw [if_neg (by rw [hd]; simp), if_pos ⟨by omega, by omega, want_size L i⟩, if_neg (by omega), Int.toNat_natCast]
    simp only [Lg.wipeFrom]
    split
    · exact wipe_full L m (i + 1) S h (by omega) hd hf
    rw [e, if_pos rfl]
    exact wipe_full L m (i + 1) _ (by simpa [Dsk.wrote, Dsk.burnt] using h) (by omega) hd (by show (if 0 < S.fuel then S.fuel - 1 else S.fuel) = -1; rw [if_neg (by omega)]; exact hf)
end Go.Proofs.Ytplcddcdhnjfeaa
