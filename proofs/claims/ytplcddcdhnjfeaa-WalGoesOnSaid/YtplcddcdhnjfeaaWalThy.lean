/- What is read of a stream's sectors, of a stream's bytes: plain. No walk in sight. -/
import Derived.Test.YtplcddcdhnjfeaaWalOpen
set_option linter.unusedVariables false
set_option linter.unusedSimpArgs false
namespace Go.Proofs.Ytplcddcdhnjfeaa
open Go.RowKit

/-- Sector k of a stream, with these bytes. -/
def secOf (k : Nat) (p : ByteArray) : ByteArray := Oct.str (k + 1) 8 ++ Oct.str p.size 2 ++ p ++ Fr.zs (54 - p.size)
theorem sec_secOf (L : Lg) (k : Nat) : L.sec k = secOf k (L.part k) := rfl
theorem rbytes_app (a b : ByteArray) (n : Nat) (h : a.size = n) : Oct.rbytes (some (a ++ b)) n = (a, some b) := by
  show (if (n : Int) < 0 ∨ ((a ++ b).size : Int) < n then ((⟨#[]⟩ : ByteArray), (none : Oct.Rs)) else ((a ++ b).extract 0 (n : Int).toNat, some ((a ++ b).extract (n : Int).toNat (a ++ b).size))) = _
  rw [if_neg (by rw [ByteArray.size_append]; omega), Int.toNat_natCast, ← h, Oct.take_app, Oct.drop_app]
theorem rnum_app (a b : ByteArray) (n : Nat) (h : a.size = n) (h1 : 1 ≤ n) (h8 : n ≤ 8) : Oct.rnum (some (a ++ b)) n = (Oct.sval a, some b) := by
  show (if (n : Int) < 1 ∨ 8 < (n : Int) then ((0 : Nat), (none : Oct.Rs)) else (Oct.nval (Oct.rbytes (some (a ++ b)) n).1, (Oct.rbytes (some (a ++ b)) n).2)) = _
  rw [if_neg (by omega), rbytes_app a b n h]
  show (Oct.nval a, some b) = _
  unfold Oct.nval
  rw [if_pos (by omega)]
theorem rd_secOf (k : Nat) (p : ByteArray) (hp : p.size ≤ 54) (hk : k ≤ 1152921504606846976) : secId (secOf k p) = k + 1 ∧ secN (secOf k p) = p.size ∧ secB (secOf k p) = p := by
  have e : secOf k p = Oct.str (k + 1) 8 ++ (Oct.str p.size 2 ++ (p ++ Fr.zs (54 - p.size))) := by unfold secOf; simp only [ByteArray.append_assoc]
  have a := rnum_app (Oct.str (k + 1) 8) (Oct.str p.size 2 ++ (p ++ Fr.zs (54 - p.size))) 8 (Oct.str_size _ _) (by omega) (by omega)
  have b := rnum_app (Oct.str p.size 2) (p ++ Fr.zs (54 - p.size)) 2 (Oct.str_size _ _) (by omega) (by omega)
  rw [Oct.sval_str _ _ (by omega)] at a b
  have a' : Oct.rnum (some (secOf k p)) 8 = (k + 1, some (Oct.str p.size 2 ++ (p ++ Fr.zs (54 - p.size)))) := by rw [e]; exact a
  have n : secN (secOf k p) = p.size := by
    show (Oct.rnum (Oct.rnum (some (secOf k p)) 8).2 2).1 = _
    rw [a']; exact congrArg Prod.fst b
  refine ⟨?_, n, ?_⟩
  · show (Oct.rnum (some (secOf k p)) 8).1 = _
    rw [a']
  · show (Oct.rbytes (Oct.rnum (Oct.rnum (some (secOf k p)) 8).2 2).2 (secN (secOf k p))).1 = _
    rw [n, a']
    have b2 : (Oct.rnum (some (Oct.str p.size 2 ++ (p ++ Fr.zs (54 - p.size)))) 2).2 = some (p ++ Fr.zs (54 - p.size)) := congrArg Prod.snd b
    show (Oct.rbytes (Oct.rnum (some (Oct.str p.size 2 ++ (p ++ Fr.zs (54 - p.size)))) 2).2 p.size).1 = p
    rw [b2, rbytes_app p _ p.size rfl]
theorem ext_snoc (T : ByteArray) (a b : Nat) (h : a ≤ b) (hb : b ≤ T.size) : T.extract 0 a ++ T.extract a b = T.extract 0 b := by
  rw [ByteArray.extract_append_extract]
  congr 1 <;> omega
/-- Of a stream's sectors a head of the stream is gathered. -/
theorem ld_pre (T : ByteArray) (get : Nat → ByteArray) (K : Nat) : ∀ (m i : Nat), 54 * i ≤ T.size → K + i + m ≤ 1152921504606846976 →
    (∀ j, i ≤ j → j < i + m → secId (get (K + j)) ≠ K + j + 1 ∨ ∃ c, c ≤ 54 ∧ 54 * j + c ≤ T.size ∧ get (K + j) = secOf (K + j) (T.extract (54 * j) (54 * j + c))) →
    ∃ t, t ≤ T.size ∧ 54 * i ≤ t ∧ ldFrom get K m i (T.extract 0 (54 * i)) = T.extract 0 t ∧
      ∀ F, F ≤ T.size → F ≤ 54 * (i + m) → (∀ j, i ≤ j → j < i + m → 54 * j < F → ∃ c, c ≤ 54 ∧ min 54 (F - 54 * j) ≤ c ∧ 54 * j + c ≤ T.size ∧ get (K + j) = secOf (K + j) (T.extract (54 * j) (54 * j + c))) → F ≤ t
  | 0, i, hi, hK, hg => ⟨54 * i, hi, Nat.le_refl _, rfl, fun F h1 h2 h3 => by omega⟩
  | m + 1, i, hi, hK, hg => by
    have step : ldFrom get K (m + 1) i (T.extract 0 (54 * i)) = if secId (get (K + i)) ≠ K + i + 1 ∨ 54 < secN (get (K + i)) then T.extract 0 (54 * i) else if secN (get (K + i)) < 54 then T.extract 0 (54 * i) ++ secB (get (K + i)) else ldFrom get K m (i + 1) (T.extract 0 (54 * i) ++ secB (get (K + i))) := rfl
    rw [step]
    clear step
    by_cases hid : secId (get (K + i)) ≠ K + i + 1
    · refine ⟨54 * i, hi, Nat.le_refl _, by rw [if_pos (.inl hid)], fun F h1 h2 h3 => ?_⟩
      refine Nat.le_of_not_lt fun hlt => ?_
      obtain ⟨c, c1, c2, c3, c4⟩ := h3 i (Nat.le_refl _) (by omega) hlt
      have := (rd_secOf (K + i) (T.extract (54 * i) (54 * i + c)) (by rw [ByteArray.size_extract]; omega) (by omega)).1
      rw [← c4] at this
      exact hid this
    · rcases hg i (Nat.le_refl _) (by omega) with h | ⟨c, c1, c2, c3⟩
      · exact absurd h hid
      have hsz : (T.extract (54 * i) (54 * i + c)).size = c := by rw [ByteArray.size_extract]; omega
      obtain ⟨r1, r2, r3⟩ := rd_secOf (K + i) (T.extract (54 * i) (54 * i + c)) (by omega) (by omega)
      rw [← c3, hsz] at r2
      rw [← c3] at r1 r3
      have r4 := (rd_secOf (K + i) (T.extract (54 * i) (54 * i + c)) (by omega) (by omega)).2.2
      rw [r2, if_neg (by omega), c3, r4, ext_snoc T _ _ (by omega) c2]
      by_cases hc : c < 54
      · refine ⟨54 * i + c, c2, by omega, by rw [if_pos hc], fun F h1 h2 h3 => ?_⟩
        refine Nat.le_of_not_lt fun hlt => ?_
        obtain ⟨c', d1, d2, d3, d4⟩ := h3 i (Nat.le_refl _) (by omega) (by omega)
        have q := (rd_secOf (K + i) (T.extract (54 * i) (54 * i + c')) (by rw [ByteArray.size_extract]; omega) (by omega)).2.1
        rw [← d4, r2, ByteArray.size_extract] at q
        omega
      · have hc54 : c = 54 := by omega
        subst hc54
        rw [if_neg hc, show 54 * i + 54 = 54 * (i + 1) by omega]
        obtain ⟨t, t1, t2, t3, t4⟩ := ld_pre T get K m (i + 1) (by omega) (by omega) (fun j hj1 hj2 => hg j (by omega) (by omega))
        exact ⟨t, t1, by omega, t3, fun F h1 h2 h3 => by
          by_cases hF : F ≤ 54 * (i + 1)
          · omega
          · exact t4 F h1 (by omega) (fun j hj1 hj2 hj3 => h3 j (by omega) (by omega) hj3)⟩
end Go.Proofs.Ytplcddcdhnjfeaa
