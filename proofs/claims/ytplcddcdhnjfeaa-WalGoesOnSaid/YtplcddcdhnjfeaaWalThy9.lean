/- A log over its device, wherever it starts; what its ring's sectors are numbered; a cut; a device with fuel: plain. -/
import Derived.Test.YtplcddcdhnjfeaaWalThy8
set_option linter.unusedVariables false
set_option linter.unusedSimpArgs false
namespace Go.Proofs.Ytplcddcdhnjfeaa
open Go.RowKit

/-- Up, and fuel without end. -/
def Run (S : Dsk) : Prop := S.down = false ∧ S.fuel = -1
theorem burnt_run {S : Dsk} (h : S.fuel = -1) : (if 0 < S.fuel then S.fuel - 1 else S.fuel) = -1 := by rw [if_neg (by omega)]; exact h
theorem write_run {S : Dsk} (h : Run S) (i : Nat) (d : ByteArray) (hi : i < S.firm.length) (hd : d.size = 64) : (S.write (i : Int) d).2 = 0 ∧ Run (S.write (i : Int) d).1 := by
  have e : S.write (i : Int) d = (S.wrote i d, 0) := by
    unfold Dsk.write
    rw [if_neg (by rw [h.1]; simp), if_pos ⟨by omega, by omega, hd⟩, if_neg (by have := h.2; omega), Int.toNat_natCast]
  rw [e]
  exact ⟨rfl, h.1, burnt_run h.2⟩
theorem barrier_run {S : Dsk} (h : Run S) : S.barrier.2 = 0 ∧ Run S.barrier.1 ∧ S.barrier.1.pend = [] := by
  unfold Dsk.barrier
  rw [if_neg (by rw [h.1]; simp), if_neg (by have := h.2; omega)]
  exact ⟨rfl, ⟨h.1, burnt_run h.2⟩, rfl⟩
theorem wr_run (L : Lg) (hn : 1 ≤ L.n) : ∀ (m k : Nat) (S : Dsk), L.first + L.n ≤ S.firm.length → Run S → (L.wr m k S).2 = 0 ∧ Run (L.wr m k S).1
  | 0, k, S, _, h => ⟨rfl, h⟩
  | m + 1, k, S, hl, h => by
    have hk : k % L.n < L.n := Nat.mod_lt _ hn
    obtain ⟨a, b⟩ := write_run h (L.first + k % L.n) (L.sec k) (by omega) (L.sec_size k)
    simp only [Lg.wr]
    rw [if_pos a]
    exact wr_run L hn m (k + 1) _ (by rw [write_len]; exact hl) b
theorem flush_run {L : Lg} {S : Dsk} (h : L.ok) (hl : L.first + L.n ≤ S.firm.length) (r : Run S) (at_ : Int) : (L.flush S at_).2.2 = 0 ∧ Run (L.flush S at_).2.1 := by
  have n1 := h.n1
  obtain ⟨w1, w2⟩ := wr_run L (by omega) L.rounds (L.firm / 54) S hl r
  obtain ⟨b1, b2, _⟩ := barrier_run w2
  unfold Lg.flush
  split
  · exact ⟨rfl, r⟩
  rw [if_neg (not_not_intro w1), if_neg (not_not_intro b1)]
  exact ⟨b1, b2⟩
theorem wipe_run {N : Nat} (L : Lg) : ∀ (m i : Nat) (S : Dsk), S.firm.length = N → L.first + (i + m) ≤ N → Run S → (L.wipeFrom m i S).2 = 0 ∧ Run (L.wipeFrom m i S).1 ∧ (L.wipeFrom m i S).1.pend = []
  | 0, i, S, h, hi, r => barrier_run r
  | m + 1, i, S, h, hi, r => by
    obtain ⟨a, b⟩ := write_run r (L.first + i) (L.want i) (by omega) (want_size L i)
    simp only [Lg.wipeFrom]
    split
    · exact wipe_run L m (i + 1) S h (by omega) r
    exact wipe_run (N := N) L m (i + 1) _ (by rw [write_len]; exact h) (by omega) b
theorem crash_run (S : Dsk) (m : Nat) (kb : Nat → Bool) : Run (S.crash m kb) := ⟨rfl, rfl⟩

/-- The sectors of the ring bear no number of a sector behind place M. -/
def Bd (first n M : Nat) (j : Nat) (v : ByteArray) : Prop := first ≤ j → j < first + n → 54 * secId v ≤ M + 53
theorem bd_more {first n M M' j : Nat} {v : ByteArray} (h : Bd first n M j v) (hm : M ≤ M') : Bd first n M' j v := fun a b => Nat.le_trans (h a b) (by omega)
theorem id_secOf (k : Nat) (p : ByteArray) (hk : k + 1 < 18446744073709551616) : secId (secOf k p) = k + 1 := by
  unfold secId secOf
  rw [ByteArray.append_assoc, ByteArray.append_assoc]
  have a : Oct.rnum (some (Oct.str (k + 1) 8 ++ (Oct.str p.size 2 ++ (p ++ Fr.zs (54 - p.size))))) 8 = _ := rnum_app (Oct.str (k + 1) 8) _ 8 (Oct.str_size _ _) (by omega) (by omega)
  rw [a]
  show Oct.sval (Oct.str (k + 1) 8) = _
  rw [Oct.sval_str _ _ (by omega)]
theorem bd_zs (first n M j : Nat) : Bd first n M j (Fr.zs 64) := fun _ _ => by rw [blank_id]; omega
theorem bd_sec {L : Lg} (h : L.ok) (k : Nat) (hk : k * 54 < L.fin) (j : Nat) : Bd L.first L.n L.fin j (L.sec k) := fun _ _ => by
  have := h.big
  rw [sec_secOf, id_secOf _ _ (by omega)]
  omega
theorem flush_bd {L : Lg} {S : Dsk} (h : L.ok) (a : Dal (Bd L.first L.n L.fin) S) (at_ : Int) : Dal (Bd L.first L.n L.fin) (L.flush S at_).2.1 := by
  have w := L.wr_al L.rounds (L.firm / 54) S a fun k h1 h2 => bd_sec h k (by
    unfold Lg.rounds at h2
    omega) _
  unfold Lg.flush
  split
  · exact a
  split
  · exact w
  split
  · exact w.barrier
  · exact w.barrier
theorem want_bd {L : Lg} (h : L.ok) (i j : Nat) : Bd L.first L.n L.fin j (L.want i) := by
  unfold Lg.want
  split
  · rename_i c
    exact bd_sec h _ c j
  · exact bd_zs _ _ _ _
theorem wipe_bd {L : Lg} {S : Dsk} (h : L.ok) {Q : Nat → ByteArray → Prop} (q : Dal Q S) (hq : ∀ j v, Bd L.first L.n L.fin j v → Q j v) : Dal Q (L.wipeFrom L.n 0 S).1 ∧ ((L.wipeFrom L.n 0 S).2 = 0 → Dal (Bd L.first L.n L.fin) (L.wipeFrom L.n 0 S).1) := by
  have w : ∀ j, 0 ≤ j → j < 0 + L.n → Bd L.first L.n L.fin (L.first + j) (L.want j) := fun j _ hj => want_bd h j _
  have w' : ∀ j, 0 ≤ j → j < 0 + L.n → Q (L.first + j) (L.want j) := fun j h0 hj => hq _ _ (w j h0 hj)
  refine ⟨L.wipe_al L.n 0 S q w', fun h0 => L.wipe_now L.n 0 S q w' w (fun j hj => ?_) h0⟩
  by_cases hx : L.first ≤ j ∧ j < L.first + L.n
  · exact .inr ⟨by omega, by omega⟩
  · exact .inl fun a b => absurd ⟨a, b⟩ hx
theorem start_bd (N first n M : Nat) : Dal (Bd first n M) (.start (blanks N)) := Dal.start fun j hj => by
  have e : (blanks N).getD j ⟨#[]⟩ = Fr.zs 64 := by
    have hj' : j < N := by simpa [blanks] using hj
    simp [blanks, List.getD_eq_getElem?_getD, List.getElem?_replicate, hj']
  rw [e]; exact bd_zs _ _ _ _

/-- The stream from a later sector on. -/
theorem rg_cut {first n K F d j : Nat} {T : ByteArray} {v : ByteArray} (h : Rg first n K T F j v) (b : Bd first n (54 * K + T.size) j v) (hF : F ≤ T.size) (hn : T.size ≤ 54 * n) (hd : 54 * d ≤ T.size) :
    Rg first n (K + d) (T.extract (54 * d) T.size) (F - 54 * d) j v := fun i hi hj => by
  have hz : (T.extract (54 * d) T.size).size = T.size - 54 * d := by rw [ByteArray.size_extract]; omega
  have hm : (K + d + i) % n < n := Nat.mod_lt _ (by omega)
  by_cases hlt : d + i < n
  · rcases h (d + i) hlt (by rw [hj, Nat.add_assoc]) with ⟨a, c⟩ | ⟨c, c1, c2, c3, c4⟩
    · exact .inl ⟨by omega, by rw [Nat.add_assoc K d i]; exact c⟩
    · refine .inr ⟨c, c1, by omega, by rw [hz]; omega, ?_⟩
      rw [c4, ByteArray.extract_extract, Nat.add_assoc K d i]
      congr 2 <;> omega
  · refine .inl ⟨by omega, fun e => ?_⟩
    have := b (by omega) (by omega)
    omega
end Go.Proofs.Ytplcddcdhnjfeaa
