/- A ring's sectors hold a stream; so through Flush, a crash, Open's reading and its wipe: plain. -/
import Derived.Test.YtplcddcdhnjfeaaWalThy3
set_option linter.unusedVariables false
set_option linter.unusedSimpArgs false
namespace Go.Proofs.Ytplcddcdhnjfeaa
open Go.RowKit

/-- Of the stream T from sector K on the device's sector j holds its part, at least what is ahead of F; or something that isn't taken for it. -/
def Rg (first n K : Nat) (T : ByteArray) (F : Nat) (j : Nat) (v : ByteArray) : Prop :=
  ∀ i, i < n → j = first + (K + i) % n → (F ≤ 54 * i ∧ secId v ≠ K + i + 1) ∨ ∃ c, c ≤ 54 ∧ min 54 (F - 54 * i) ≤ c ∧ 54 * i + c ≤ T.size ∧ v = secOf (K + i) (T.extract (54 * i) (54 * i + c))
theorem mod_le (K i k n : Nat) (h : i < n) (e : (K + i) % n = (K + k) % n) : i ≤ k := by
  have a := Nat.sub_mod_eq_zero_of_mod_eq e
  rw [Nat.mod_eq_of_lt (by omega)] at a
  omega
theorem mod_inj (K i k n : Nat) (h : i < n) (h2 : k < n) (e : (K + i) % n = (K + k) % n) : i = k := Nat.le_antisymm (mod_le K i k n h e) (mod_le K k i n h2 e.symm)
theorem blank_id : secId (Fr.zs 64) = 0 := by
  have e : Fr.zs 64 = Oct.str 0 8 ++ Fr.zs 56 := by decide
  show (Oct.rnum (some (Fr.zs 64)) 8).1 = 0
  have a : Oct.rnum (some (Oct.str 0 8 ++ Fr.zs 56)) 8 = _ := rnum_app (Oct.str 0 8) (Fr.zs 56) 8 (Oct.str_size _ _) (by omega) (by omega)
  rw [e, a, Oct.sval_str _ _ (by omega)]
theorem ext_ext (T : ByteArray) (t a b : Nat) (h : b ≤ t) : (T.extract 0 t).extract a b = T.extract a b := by
  rw [ByteArray.extract_extract]
  congr 1 <;> omega
theorem ext_app (T x : ByteArray) (a b : Nat) (h : b ≤ T.size) : (T ++ x).extract a b = T.extract a b := by
  apply ByteArray.ext
  have : T.data.size = T.size := rfl
  rw [ByteArray.data_extract, ByteArray.data_append, ByteArray.data_extract, Array.extract_append, this, Nat.sub_eq_zero_of_le h]
  simp
section
variable {first n K F : Nat} {T : ByteArray} {j : Nat} {v : ByteArray}
theorem rg_less {G : Nat} (h : Rg first n K T F j v) (hg : G ≤ F) : Rg first n K T G j v := fun i hi hj => by
  rcases h i hi hj with ⟨a, b⟩ | ⟨c, c1, c2, c3, c4⟩
  · exact .inl ⟨by omega, b⟩
  · exact .inr ⟨c, c1, by omega, c3, c4⟩
theorem rg_more (h : Rg first n K T F j v) (x : ByteArray) : Rg first n K (T ++ x) F j v := fun i hi hj => by
  rcases h i hi hj with a | ⟨c, c1, c2, c3, c4⟩
  · exact .inl a
  · exact .inr ⟨c, c1, c2, by rw [ByteArray.size_append]; omega, by rw [ext_app _ _ _ _ c3]; exact c4⟩
/-- What holds a head of the stream holds the stream, so far. -/
theorem rg_pre {t : Nat} (h : Rg first n K (T.extract 0 t) (T.extract 0 t).size j v) (hF : F ≤ (T.extract 0 t).size) : Rg first n K T F j v := fun i hi hj => by
  have hz : (T.extract 0 t).size = min t T.size := by rw [ByteArray.size_extract]; omega
  rcases h i hi hj with ⟨a, b⟩ | ⟨c, c1, c2, c3, c4⟩
  · exact .inl ⟨by omega, b⟩
  · exact .inr ⟨c, c1, by omega, by omega, by rw [ext_ext _ _ _ _ (by omega)] at c4; exact c4⟩
theorem rg_zs (h : ∀ i, i < n → j = first + (K + i) % n → F ≤ 54 * i) : Rg first n K T F j (Fr.zs 64) := fun i hi hj => .inl ⟨h i hi hj, by rw [blank_id]; omega⟩
theorem rg_blank : Rg first n K T 0 j (Fr.zs 64) := rg_zs fun i _ _ => Nat.zero_le _
end
theorem sec_rg {L : Lg} (h : L.ok) (i : Nat) (hi : i < L.n) (hs : 54 * i ≤ L.data.size) : Rg L.first L.n (L.start / 54) L.data L.data.size (L.first + (L.start / 54 + i) % L.n) (L.sec (L.start / 54 + i)) := fun k hk hj => by
  have := mod_inj (L.start / 54) i k L.n hi hk (by omega)
  subst this
  refine .inr ⟨min 54 (L.data.size - 54 * i), Nat.min_le_left _ _, Nat.le_refl _, by omega, ?_⟩
  rw [sec_secOf]
  have e : L.part (L.start / 54 + i) = L.data.extract (54 * i) (54 * i + min 54 (L.data.size - 54 * i)) := by
    unfold Lg.part
    rw [flr_mul]
    congr 1 <;> omega
  rw [e]
theorem wr_in {L : Lg} (h : L.ok) (k : Nat) (h1 : L.firm / 54 ≤ k) (h2 : k < L.firm / 54 + L.rounds) : ∃ i, k = L.start / 54 + i ∧ i < L.n ∧ 54 * i < L.data.size := by
  unfold Lg.rounds at h2
  have a1 := h.sf; have a2 := h.fe; have a3 := h.rm; have a4 := h.sz
  rw [flr_mul] at a3 a4
  have : L.start / 54 ≤ L.firm / 54 := Nat.div_le_div_right a1
  exact ⟨k - L.start / 54, by omega, by omega, by omega⟩
section
variable {L : Lg} {S : Dsk} {F : Nat}
theorem flush_rg (h : L.ok) (a : Dal (Rg L.first L.n (L.start / 54) L.data F) S) (hF : F ≤ L.data.size) (at_ : Int) : Dal (Rg L.first L.n (L.start / 54) L.data F) (L.flush S at_).2.1 := by
  have w := L.wr_al L.rounds (L.firm / 54) S a fun k h1 h2 => by
    obtain ⟨i, rfl, hi, hs⟩ := wr_in h k h1 h2
    exact rg_less (sec_rg h i hi (by omega)) hF
  unfold Lg.flush
  split
  · exact a
  split
  · exact w
  split
  · exact w.barrier
  · exact w.barrier
/-- Behind a flush that was made all is firm. -/
theorem flushed_rg (h : L.ok) (a : Dal (Rg L.first L.n (L.start / 54) L.data (L.firm - flr L.start)) S) (at_ : Int) (h0 : (L.flush S at_).2.2 = 0) : Dal (Rg L.first L.n (L.start / 54) L.data ((L.flush S at_).1.firm - flr L.start)) (L.flush S at_).2.1 ∧ (¬ at_ < L.firm → (L.flush S at_).1.firm = L.fin) := by
  have a1 := h.sf; have a2 := h.fe; have a3 := h.rm; have a4 := h.sz
  have hq : ∀ k, L.firm / 54 ≤ k → k < L.firm / 54 + L.rounds → Rg L.first L.n (L.start / 54) L.data L.data.size (L.first + k % L.n) (L.sec k) := fun k h1 h2 => by
    obtain ⟨i, rfl, hi, hs⟩ := wr_in h k h1 h2
    exact sec_rg h i hi (by omega)
  have fl := flr_le L.start
  have hF : L.firm - flr L.start ≤ L.data.size := by omega
  have w := L.wr_al L.rounds (L.firm / 54) S a fun k h1 h2 => rg_less (hq k h1 h2) hF
  have now := L.wr_now (R := Rg L.first L.n (L.start / 54) L.data L.data.size) L.rounds (L.firm / 54) S a (fun k h1 h2 => rg_less (hq k h1 h2) hF) hq
  unfold Lg.flush at h0 ⊢
  split at h0
  · rename_i c
    rw [if_pos c]
    exact ⟨a, fun hn => by rcases c with c | c; exact absurd c hn; exact c⟩
  rename_i c
  rw [if_neg c]
  split at h0
  · rename_i d; exact absurd h0 d
  rename_i d
  rw [if_neg d]
  split at h0
  · rename_i e; exact absurd h0 e
  rename_i e
  rw [if_neg e]
  refine ⟨?_, fun _ => rfl⟩
  show Dal (Rg L.first L.n (L.start / 54) L.data (L.fin - flr L.start)) _
  rw [← a4]
  obtain ⟨n1, n2⟩ := now (Decidable.not_not.1 d)
  refine w.synced (Decidable.not_not.1 e) fun j hj => ?_
  rw [n1] at hj
  refine n2 j hj ?_
  by_cases hx : ∃ i, L.firm / 54 ≤ i ∧ i < L.firm / 54 + L.rounds ∧ j = L.first + i % L.n
  · exact .inr hx
  · refine .inl fun i hi hji => ?_
    have hout : ¬ (L.firm / 54 ≤ L.start / 54 + i ∧ L.start / 54 + i < L.firm / 54 + L.rounds) := fun hh => hx ⟨_, hh.1, hh.2, hji⟩
    unfold Lg.rounds at hout
    have hsf : L.start / 54 ≤ L.firm / 54 := Nat.div_le_div_right a1
    have q := a.now j hj i hi hji
    rw [flr_mul] at q a4
    rcases q with ⟨q1, q2⟩ | ⟨c', c1, c2, c3, c4⟩
    · exact .inl ⟨by omega, q2⟩
    · exact .inr ⟨c', c1, by omega, c3, c4⟩
/-- What Open reads: a head of the stream, at least what is firm. -/
theorem read_rg {first n start : Nat} {T : ByteArray} (a : Dal (Rg first n (start / 54) T F) S) (hl : first + n ≤ S.firm.length) (h1 : 1 ≤ n) (hb : start / 54 + n ≤ 1152921504606846976) (hF : F ≤ T.size) (hn : F ≤ 54 * n) :
    ∃ t, t ≤ T.size ∧ F ≤ t ∧ (Lg.read first n start S).data = T.extract 0 t := by
  have g : ∀ j, j < n → Rg first n (start / 54) T F (first + (start / 54 + j) % n) ((Lg.bare first n start).get S (start / 54 + j)) := fun j hj => by
    have : (start / 54 + j) % n < n := Nat.mod_lt _ h1
    exact a.now _ (by omega)
  obtain ⟨t, t1, t2, t3, t4⟩ := ld_pre T ((Lg.bare first n start).get S) (start / 54) n 0 (Nat.zero_le _) (by omega) (fun j _ hj => by
    rcases g j (by omega) j (by omega) rfl with ⟨_, q⟩ | ⟨c, c1, c2, c3, c4⟩
    · exact .inl q
    · exact .inr ⟨c, c1, c3, c4⟩)
  refine ⟨t, t1, t4 F hF (by omega) (fun j _ hj hF => ?_), ?_⟩
  · rcases g j (by omega) j (by omega) rfl with ⟨q, _⟩ | ⟨c, c1, c2, c3, c4⟩
    · omega
    · exact ⟨c, c1, c2, c3, c4⟩
  · have e : T.extract 0 (54 * 0) = (⟨#[]⟩ : ByteArray) := by apply ByteArray.ext; simp
    rw [e] at t3
    exact t3
end
end Go.Proofs.Ytplcddcdhnjfeaa
