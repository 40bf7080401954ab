/- What is read of a stream's sectors, of a stream's bytes: plain. No walk in sight. Of a head of a stream the first records are found: plain. What lies on a device through writes, barriers, crashes; what the sectors of a ring hold of a stream: plain. A ring's sectors hold a stream; so through Flush, a crash, Open's reading and its wipe: plain. What Open finds of a ring that holds a stream, and what it leaves there: plain. A device through a log's work: its size, its pending writes: plain. -/
import Derived.Test.YtplcddcdhnjfeaaWalOpen
import Derived.Test.YtplcddcdhnjfeaaDskWalk5
set_option linter.unusedVariables false
set_option linter.unusedSimpArgs false
namespace Go.Proofs.Ytplcddcdhnjfeaa
open Go.RowKit

/-- Sector k of a stream, with these bytes. -/
def secOf (k : Nat) (p : ByteArray) : ByteArray := Oct.str (k + 1) 8 ++ Oct.str p.size 2 ++ p ++ Fr.zs (54 - p.size)
theorem sec_secOf (L : Lg) (k : Nat) : L.sec k = secOf k (L.part k) := rfl
theorem rbytes_app (a b : ByteArray) (n : Nat) (h : a.size = n) : Oct.rbytes (some (a ++ b)) n = (a, some b) := by
  show (if (n : Int) < 0 ∨ ((a ++ b).size : Int) < n then ((⟨#[]⟩ : ByteArray), (none : Oct.Rs)) else ((a ++ b).extract 0 (n : Int).toNat, some ((a ++ b).extract (n : Int).toNat (a ++ b).size))) = _
  rw [if_neg (by rw [ByteArray.size_append]; omega), Int.toNat_natCast, ← h, Oct.take_app, Oct.drop_app]
theorem rnum_app (a b : ByteArray) (n : Nat) (h : a.size = n) (h1 : 1 ≤ n) (h8 : n ≤ 8) : Oct.rnum (some (a ++ b)) n = (Oct.sval a, some b) := by
  show (if (n : Int) < 1 ∨ 8 < (n : Int) then ((0 : Nat), (none : Oct.Rs)) else (Oct.nval (Oct.rbytes (some (a ++ b)) n).1, (Oct.rbytes (some (a ++ b)) n).2)) = _
  rw [if_neg (by omega), rbytes_app a b n h]
  show (Oct.nval a, some b) = _
  unfold Oct.nval
  rw [if_pos (by omega)]
theorem rd_secOf (k : Nat) (p : ByteArray) (hp : p.size ≤ 54) (hk : k ≤ 1152921504606846976) : secId (secOf k p) = k + 1 ∧ secN (secOf k p) = p.size ∧ secB (secOf k p) = p := by
  have e : secOf k p = Oct.str (k + 1) 8 ++ (Oct.str p.size 2 ++ (p ++ Fr.zs (54 - p.size))) := by unfold secOf; simp only [ByteArray.append_assoc]
  have a := rnum_app (Oct.str (k + 1) 8) (Oct.str p.size 2 ++ (p ++ Fr.zs (54 - p.size))) 8 (Oct.str_size _ _) (by omega) (by omega)
  have b := rnum_app (Oct.str p.size 2) (p ++ Fr.zs (54 - p.size)) 2 (Oct.str_size _ _) (by omega) (by omega)
  rw [Oct.sval_str _ _ (by omega)] at a b
  have a' : Oct.rnum (some (secOf k p)) 8 = (k + 1, some (Oct.str p.size 2 ++ (p ++ Fr.zs (54 - p.size)))) := by rw [e]; exact a
  have n : secN (secOf k p) = p.size := by
    show (Oct.rnum (Oct.rnum (some (secOf k p)) 8).2 2).1 = _
    rw [a']; exact congrArg Prod.fst b
  refine ⟨?_, n, ?_⟩
  · show (Oct.rnum (some (secOf k p)) 8).1 = _
    rw [a']
  · show (Oct.rbytes (Oct.rnum (Oct.rnum (some (secOf k p)) 8).2 2).2 (secN (secOf k p))).1 = _
    rw [n, a']
    have b2 : (Oct.rnum (some (Oct.str p.size 2 ++ (p ++ Fr.zs (54 - p.size)))) 2).2 = some (p ++ Fr.zs (54 - p.size)) := congrArg Prod.snd b
    show (Oct.rbytes (Oct.rnum (some (Oct.str p.size 2 ++ (p ++ Fr.zs (54 - p.size)))) 2).2 p.size).1 = p
    rw [b2, rbytes_app p _ p.size rfl]
theorem ext_snoc (T : ByteArray) (a b : Nat) (h : a ≤ b) (hb : b ≤ T.size) : T.extract 0 a ++ T.extract a b = T.extract 0 b := by
  rw [ByteArray.extract_append_extract]
  congr 1 <;> omega
/-- Of a stream's sectors a head of the stream is gathered. -/
theorem ld_pre (T : ByteArray) (get : Nat → ByteArray) (K : Nat) : ∀ (m i : Nat), 54 * i ≤ T.size → K + i + m ≤ 1152921504606846976 →
    (∀ j, i ≤ j → j < i + m → secId (get (K + j)) ≠ K + j + 1 ∨ ∃ c, c ≤ 54 ∧ 54 * j + c ≤ T.size ∧ get (K + j) = secOf (K + j) (T.extract (54 * j) (54 * j + c))) →
    ∃ t, t ≤ T.size ∧ 54 * i ≤ t ∧ ldFrom get K m i (T.extract 0 (54 * i)) = T.extract 0 t ∧
      ∀ F, F ≤ T.size → F ≤ 54 * (i + m) → (∀ j, i ≤ j → j < i + m → 54 * j < F → ∃ c, c ≤ 54 ∧ min 54 (F - 54 * j) ≤ c ∧ 54 * j + c ≤ T.size ∧ get (K + j) = secOf (K + j) (T.extract (54 * j) (54 * j + c))) → F ≤ t
  | 0, i, hi, hK, hg => ⟨54 * i, hi, Nat.le_refl _, rfl, fun F h1 h2 h3 => by omega⟩
  | m + 1, i, hi, hK, hg => by
    have step : ldFrom get K (m + 1) i (T.extract 0 (54 * i)) = if secId (get (K + i)) ≠ K + i + 1 ∨ 54 < secN (get (K + i)) then T.extract 0 (54 * i) else if secN (get (K + i)) < 54 then T.extract 0 (54 * i) ++ secB (get (K + i)) else ldFrom get K m (i + 1) (T.extract 0 (54 * i) ++ secB (get (K + i))) := rfl
    rw [step]
    clear step
    by_cases hid : secId (get (K + i)) ≠ K + i + 1
    · refine ⟨54 * i, hi, Nat.le_refl _, by rw [if_pos (.inl hid)], fun F h1 h2 h3 => ?_⟩
      refine Nat.le_of_not_lt fun hlt => ?_
      obtain ⟨c, c1, c2, c3, c4⟩ := h3 i (Nat.le_refl _) (by omega) hlt
      have := (rd_secOf (K + i) (T.extract (54 * i) (54 * i + c)) (by rw [ByteArray.size_extract]; omega) (by omega)).1
      rw [← c4] at this
      exact hid this
    · rcases hg i (Nat.le_refl _) (by omega) with h | ⟨c, c1, c2, c3⟩
      · exact absurd h hid
      have hsz : (T.extract (54 * i) (54 * i + c)).size = c := by rw [ByteArray.size_extract]; omega
      obtain ⟨r1, r2, r3⟩ := rd_secOf (K + i) (T.extract (54 * i) (54 * i + c)) (by omega) (by omega)
      rw [← c3, hsz] at r2
      rw [← c3] at r1 r3
      have r4 := (rd_secOf (K + i) (T.extract (54 * i) (54 * i + c)) (by omega) (by omega)).2.2
      rw [r2, if_neg (by omega), c3, r4, ext_snoc T _ _ (by omega) c2]
      by_cases hc : c < 54
      · refine ⟨54 * i + c, c2, by omega, by rw [if_pos hc], fun F h1 h2 h3 => ?_⟩
        refine Nat.le_of_not_lt fun hlt => ?_
        obtain ⟨c', d1, d2, d3, d4⟩ := h3 i (Nat.le_refl _) (by omega) (by omega)
        have q := (rd_secOf (K + i) (T.extract (54 * i) (54 * i + c')) (by rw [ByteArray.size_extract]; omega) (by omega)).2.1
        rw [← d4, r2, ByteArray.size_extract] at q
        omega
      · have hc54 : c = 54 := by omega
        subst hc54
        rw [if_neg hc, show 54 * i + 54 = 54 * (i + 1) by omega]
        obtain ⟨t, t1, t2, t3, t4⟩ := ld_pre T get K m (i + 1) (by omega) (by omega) (fun j hj1 hj2 => hg j (by omega) (by omega))
        exact ⟨t, t1, by omega, t3, fun F h1 h2 h3 => by
          by_cases hF : F ≤ 54 * (i + 1)
          · omega
          · exact t4 F h1 (by omega) (fun j hj1 hj2 hj3 => h3 j (by omega) (by omega) hj3)⟩
end Go.Proofs.Ytplcddcdhnjfeaa
namespace Go.Proofs.Ytplcddcdhnjfeaa
open Go.RowKit

/-- Records as they stand in the stream. -/
def enc : List ByteArray → ByteArray
  | [] => ⟨#[]⟩
  | r :: l => (Oct.str r.size 2 ++ r) ++ enc l
theorem total_cons (x : ByteArray) (l : List ByteArray) : total (x :: l) = (2 + x.size) + total l := by simp [total]
theorem total_app : ∀ (a b : List ByteArray), total (a ++ b) = total a + total b
  | [], b => by simp [total]
  | x :: a, b => by rw [List.cons_append, total_cons, total_cons, total_app a b]; omega
theorem enc_size : ∀ l, (enc l).size = total l
  | [] => rfl
  | r :: l => by
    show ((Oct.str r.size 2 ++ r) ++ enc l).size = _
    rw [ByteArray.size_append, ByteArray.size_append, Oct.str_size, enc_size l, total_cons]
theorem enc_app : ∀ (a b : List ByteArray), enc (a ++ b) = enc a ++ enc b
  | [], b => by show enc b = (⟨#[]⟩ : ByteArray) ++ enc b; apply ByteArray.ext; simp
  | x :: a, b => by
    show (Oct.str x.size 2 ++ x) ++ enc (a ++ b) = ((Oct.str x.size 2 ++ x) ++ enc a) ++ enc b
    rw [enc_app a b, ByteArray.append_assoc (a := Oct.str x.size 2 ++ x)]
theorem enc_one (r : ByteArray) : enc [r] = Oct.str r.size 2 ++ r := by
  show (Oct.str r.size 2 ++ r) ++ (⟨#[]⟩ : ByteArray) = _
  apply ByteArray.ext; simp
theorem ext_long (a b : ByteArray) (t : Nat) (h : a.size ≤ t) : (a ++ b).extract 0 t = a ++ b.extract 0 (t - a.size) := by
  apply ByteArray.ext
  have : a.data.size = a.size := rfl
  rw [ByteArray.data_extract, ByteArray.data_append, ByteArray.data_append, ByteArray.data_extract, Array.extract_append, this, Nat.zero_sub]
  congr 1
  rw [Array.extract_eq_self_of_le (by omega)]
theorem ext_short (a b : ByteArray) (t : Nat) (h : t ≤ a.size) : (a ++ b).extract 0 t = a.extract 0 t := by
  apply ByteArray.ext
  have : a.data.size = a.size := rfl
  rw [ByteArray.data_extract, ByteArray.data_append, ByteArray.data_extract, Array.extract_append, this, Nat.zero_sub, Nat.sub_eq_zero_of_le h]
  simp
theorem rnum_short (s : ByteArray) (h : s.size < 2) : (Oct.rnum (some s) 2).1 = 0 := by
  have e : Oct.rnum (some s) 2 = (Oct.nval (Oct.rbytes (some s) 2).1, (Oct.rbytes (some s) 2).2) := by
    show (if (2 : Int) < 1 ∨ 8 < (2 : Int) then ((0 : Nat), (none : Oct.Rs)) else (Oct.nval (Oct.rbytes (some s) 2).1, (Oct.rbytes (some s) 2).2)) = _
    rw [if_neg (by omega)]
  have e2 : Oct.rbytes (some s) 2 = (⟨#[]⟩, none) := by
    show (if (2 : Int) < 0 ∨ (s.size : Int) < 2 then ((⟨#[]⟩ : ByteArray), (none : Oct.Rs)) else _) = _
    rw [if_pos (by omega)]
  rw [e, e2]
  rfl
theorem rbytes_short (s : ByteArray) (n : Nat) (h : s.size < n) : (Oct.rbytes (some s) n).2 = none := by
  show (if (n : Int) < 0 ∨ (s.size : Int) < n then ((⟨#[]⟩ : ByteArray), (none : Oct.Rs)) else _).2 = _
  rw [if_pos (by omega)]
theorem recs_step (m : Nat) (r s : ByteArray) (h0 : 1 ≤ r.size) (h1 : r.size < 65536) :
    recsFrom (m + 1) (some ((Oct.str r.size 2 ++ r) ++ s)) = r :: recsFrom m (some s) := by
  have a : Oct.rnum (some (Oct.str r.size 2 ++ (r ++ s))) 2 = _ := rnum_app (Oct.str r.size 2) (r ++ s) 2 (Oct.str_size _ _) (by omega) (by omega)
  rw [Oct.sval_str _ _ (by omega)] at a
  show (if (Oct.rnum (some ((Oct.str r.size 2 ++ r) ++ s)) 2).1 = 0 ∨ (Oct.rbytes (Oct.rnum (some ((Oct.str r.size 2 ++ r) ++ s)) 2).2 (Oct.rnum (some ((Oct.str r.size 2 ++ r) ++ s)) 2).1).2.isNone = true then [] else (Oct.rbytes (Oct.rnum (some ((Oct.str r.size 2 ++ r) ++ s)) 2).2 (Oct.rnum (some ((Oct.str r.size 2 ++ r) ++ s)) 2).1).1 :: recsFrom m (Oct.rbytes (Oct.rnum (some ((Oct.str r.size 2 ++ r) ++ s)) 2).2 (Oct.rnum (some ((Oct.str r.size 2 ++ r) ++ s)) 2).1).2) = _
  rw [ByteArray.append_assoc, a]
  dsimp only
  rw [rbytes_app r s r.size rfl, if_neg]
  rintro (h | h)
  · omega
  · cases h
theorem recs_stop (m : Nat) (r s : ByteArray) (t : Nat) (h1 : r.size < 65536) (ht : t < 2 + r.size) :
    recsFrom (m + 1) (some (((Oct.str r.size 2 ++ r) ++ s).extract 0 t)) = [] := by
  show (if (Oct.rnum (some (((Oct.str r.size 2 ++ r) ++ s).extract 0 t)) 2).1 = 0 ∨ (Oct.rbytes (Oct.rnum (some (((Oct.str r.size 2 ++ r) ++ s).extract 0 t)) 2).2 (Oct.rnum (some (((Oct.str r.size 2 ++ r) ++ s).extract 0 t)) 2).1).2.isNone = true then [] else _) = _
  refine if_pos ?_
  have hs := Oct.str_size r.size 2
  rw [ext_short _ _ _ (by rw [ByteArray.size_append]; omega)]
  by_cases h2 : t < 2
  · exact .inl (rnum_short _ (by rw [ByteArray.size_extract]; omega))
  · rw [ext_long _ _ _ (by omega)]
    have a : Oct.rnum (some (Oct.str r.size 2 ++ r.extract 0 (t - (Oct.str r.size 2).size))) 2 = _ := rnum_app (Oct.str r.size 2) (r.extract 0 (t - (Oct.str r.size 2).size)) 2 hs (by omega) (by omega)
    rw [Oct.sval_str _ _ (by omega)] at a
    rw [a]
    refine .inr ?_
    dsimp only
    rw [rbytes_short _ _ (by rw [ByteArray.size_extract]; omega)]
    rfl
theorem recs_none (m : Nat) (s : ByteArray) (h : s.size < 2) : recsFrom m (some s) = [] := by
  cases m with
  | zero => rfl
  | succ m =>
    show (if (Oct.rnum (some s) 2).1 = 0 ∨ (Oct.rbytes (Oct.rnum (some s) 2).2 (Oct.rnum (some s) 2).1).2.isNone = true then [] else _) = _
    exact if_pos (.inl (rnum_short s h))
/-- Of a head of a stream the first records are found, all that are whole in it. -/
theorem recs_pre : ∀ (rs : List ByteArray) (m t : Nat), (∀ r ∈ rs, 1 ≤ r.size ∧ r.size < 65536) → t ≤ total rs → t < m →
    ∃ k, k ≤ rs.length ∧ recsFrom m (some ((enc rs).extract 0 t)) = rs.take k ∧ total (rs.take k) ≤ t ∧ ∀ j, j ≤ rs.length → total (rs.take j) ≤ t → j ≤ k
  | [], m, t, hr, ht, hm => by
    refine ⟨0, Nat.le_refl _, ?_, Nat.zero_le _, fun j hj _ => hj⟩
    have ht0 : t ≤ 0 := ht
    exact recs_none m _ (by rw [ByteArray.size_extract]; omega)
  | r :: l, 0, t, hr, ht, hm => absurd hm (Nat.not_lt_zero _)
  | r :: l, m + 1, t, hr, ht, hm => by
    obtain ⟨a0, a1⟩ := hr r List.mem_cons_self
    have hs := Oct.str_size r.size 2
    have ht' : t ≤ (2 + r.size) + total l := by rw [← total_cons]; exact ht
    show ∃ k, k ≤ (r :: l).length ∧ recsFrom (m + 1) (some (((Oct.str r.size 2 ++ r) ++ enc l).extract 0 t)) = (r :: l).take k ∧ _
    by_cases h : t < 2 + r.size
    · refine ⟨0, Nat.zero_le _, recs_stop m r _ t a1 h, Nat.zero_le _, fun j hj h2 => ?_⟩
      cases j with
      | zero => exact Nat.le_refl _
      | succ j =>
        rw [List.take_succ_cons, total_cons] at h2
        omega
    · have hz : (Oct.str r.size 2 ++ r).size = 2 + r.size := by rw [ByteArray.size_append, hs]
      obtain ⟨k, k1, k2, k3, k4⟩ := recs_pre l m (t - (2 + r.size)) (fun x hx => hr x (List.mem_cons_of_mem _ hx)) (by omega) (by omega)
      refine ⟨k + 1, Nat.succ_le_succ k1, ?_, ?_, fun j hj h2 => ?_⟩
      · rw [ext_long _ _ _ (by omega), hz, recs_step m r _ a0 a1, k2]
        rfl
      · rw [List.take_succ_cons, total_cons]; omega
      · cases j with
        | zero => exact Nat.zero_le _
        | succ j =>
          rw [List.take_succ_cons, total_cons] at h2
          have := k4 j (by simpa using hj) (by omega)
          omega
/-- Behind what stands ahead of the first record of start's sector. -/
theorem recs_behind (pre : ByteArray) (rs : List ByteArray) (t m : Nat) (hr : ∀ r ∈ rs, 1 ≤ r.size ∧ r.size < 65536) (ht : t ≤ pre.size + total rs) (hm : t < m) :
    ∃ k, k ≤ rs.length ∧ recsFrom m (some ((padTo ((pre ++ enc rs).extract 0 t) pre.size).extract pre.size (padTo ((pre ++ enc rs).extract 0 t) pre.size).size)) = rs.take k ∧ (total (rs.take k) = 0 ∨ pre.size + total (rs.take k) ≤ t) ∧ ∀ j, j ≤ rs.length → pre.size + total (rs.take j) ≤ t → j ≤ k := by
  have hz : ((pre ++ enc rs).extract 0 t).size = t := by rw [ByteArray.size_extract, ByteArray.size_append, enc_size]; omega
  by_cases h : pre.size ≤ t
  · have e : padTo ((pre ++ enc rs).extract 0 t) pre.size = pre ++ (enc rs).extract 0 (t - pre.size) := by
      unfold padTo
      rw [hz, Nat.sub_eq_zero_of_le h, ext_long _ _ _ h]
      apply ByteArray.ext
      rw [ByteArray.data_append]
      show _ ++ (Fr.zs 0).data = _
      simp [Fr.zs]
    have e2 : (pre ++ (enc rs).extract 0 (t - pre.size)).extract pre.size (pre ++ (enc rs).extract 0 (t - pre.size)).size = (enc rs).extract 0 (t - pre.size) := Oct.drop_app _ _
    rw [e, e2]
    obtain ⟨k, k1, k2, k3, k4⟩ := recs_pre rs m (t - pre.size) hr (by omega) (by omega)
    exact ⟨k, k1, k2, .inr (by omega), fun j hj h2 => k4 j hj (by omega)⟩
  · refine ⟨0, Nat.zero_le _, ?_, .inl rfl, fun j hj h2 => by omega⟩
    have hp : (padTo ((pre ++ enc rs).extract 0 t) pre.size).size = pre.size := by rw [pad_size, hz]; omega
    exact recs_none m _ (by rw [ByteArray.size_extract, hp]; omega)
end Go.Proofs.Ytplcddcdhnjfeaa
namespace Go.Proofs.Ytplcddcdhnjfeaa
open Go.RowKit

/-- Each sector's firm bytes, and each pending write, are such. -/
structure Dal (Q : Nat → ByteArray → Prop) (S : Dsk) : Prop where
  firm : ∀ j, j < S.firm.length → Q j (S.firm.getD j ⟨#[]⟩)
  pend : ∀ p ∈ S.pend, Q p.1 p.2
  lv : S.now = apply S.firm S.pend
theorem getD_set (l : List ByteArray) (i j : Nat) (v : ByteArray) (hj : j < l.length) : (l.set i v).getD j ⟨#[]⟩ = if i = j then v else l.getD j ⟨#[]⟩ := by
  rw [List.getD_eq_getElem?_getD, List.getD_eq_getElem?_getD, List.getElem?_set]
  by_cases h : i = j
  · subst h; rw [if_pos rfl, if_pos hj, if_pos rfl]; rfl
  · rw [if_neg h, if_neg h]
theorem apply_all {Q : Nat → ByteArray → Prop} : ∀ (ps : List (Nat × ByteArray)) (l : List ByteArray), (∀ j, j < l.length → Q j (l.getD j ⟨#[]⟩)) → (∀ p ∈ ps, Q p.1 p.2) → ∀ j, j < l.length → Q j ((apply l ps).getD j ⟨#[]⟩)
  | [], l, h, _, j, hj => h j hj
  | p :: ps, l, h, hp, j, hj => by
    show Q j ((apply (l.set p.1 p.2) ps).getD j ⟨#[]⟩)
    refine apply_all ps _ (fun i hi => ?_) (fun q hq => hp q (List.mem_cons_of_mem _ hq)) j (by rw [List.length_set]; exact hj)
    rw [List.length_set] at hi
    rw [getD_set _ _ _ _ hi]
    by_cases e : p.1 = i
    · rw [if_pos e, ← e]; exact hp p List.mem_cons_self
    · rw [if_neg e]; exact h i hi
theorem apply_snoc (l : List ByteArray) (ps : List (Nat × ByteArray)) (p : Nat × ByteArray) : apply l (ps ++ [p]) = (apply l ps).set p.1 p.2 := by unfold apply; rw [List.foldl_append]; rfl
namespace Dal
variable {Q R : Nat → ByteArray → Prop} {S : Dsk}
theorem mono (h : Dal Q S) (k : ∀ j v, Q j v → R j v) : Dal R S := ⟨fun j hj => k _ _ (h.firm j hj), fun p hp => k _ _ (h.pend p hp), h.lv⟩
theorem len (h : Dal Q S) : S.now.length = S.firm.length := by rw [h.lv, apply_length]
theorem now (h : Dal Q S) (j : Nat) (hj : j < S.firm.length) : Q j (S.now.getD j ⟨#[]⟩) := by rw [h.lv]; exact apply_all _ _ h.firm h.pend j hj
theorem start {l : List ByteArray} (h : ∀ j, j < l.length → Q j (l.getD j ⟨#[]⟩)) : Dal Q (.start l) := ⟨h, fun p hp => (List.not_mem_nil hp).elim, rfl⟩
theorem down (h : Dal Q S) : Dal Q { S with down := true } := ⟨h.firm, h.pend, h.lv⟩
theorem write (h : Dal Q S) (i : Nat) (d : ByteArray) (hq : Q i d) : Dal Q (S.write (i : Int) d).1 := by
  unfold Dsk.write
  split
  · exact h
  split
  · split
    · exact h.down
    · refine ⟨h.firm, fun p hp => ?_, ?_⟩
      · rcases List.mem_append.1 hp with hp | hp
        · exact h.pend p hp
        · rw [List.mem_singleton.1 hp, Int.toNat_natCast]; exact hq
      · show S.now.set _ d = apply S.firm (S.pend ++ [(_, d)])
        rw [apply_snoc, h.lv]
  · exact h
theorem barrier (h : Dal Q S) : Dal Q S.barrier.1 := by
  unfold Dsk.barrier
  split
  · exact h
  split
  · exact h.down
  · exact ⟨fun j hj => by
      have hl : (apply S.firm S.pend).length = S.firm.length := apply_length _ _
      exact apply_all _ _ h.firm h.pend j (by rw [← hl]; exact hj), fun p hp => (List.not_mem_nil hp).elim, h.lv⟩
/-- Behind a barrier what was there at the last is firm. -/
theorem synced (h : Dal Q S) (h0 : S.barrier.2 = 0) (k : ∀ j, j < S.firm.length → R j (S.now.getD j ⟨#[]⟩)) : Dal R S.barrier.1 := by
  unfold Dsk.barrier at h0 ⊢
  split at h0
  · cases h0
  rename_i a
  rw [if_neg a]
  split at h0
  · cases h0
  rename_i b
  rw [if_neg b]
  refine ⟨fun j hj => ?_, fun p hp => (List.not_mem_nil hp).elim, h.lv⟩
  have hl : (apply S.firm S.pend).length = S.firm.length := apply_length _ _
  have := k j (by rw [← hl]; exact hj)
  rw [h.lv] at this
  exact this
theorem keep (h : Dal Q S) (m : Nat) (kb : Nat → Bool) : ∀ k, k ≤ S.pend.length → ∀ j, j < S.firm.length → Q j ((keepTo S.firm S.pend m kb k).getD j ⟨#[]⟩)
  | 0, _, j, hj => h.firm j hj
  | k + 1, hk, j, hj => by
    have ih := keep h m kb k (by omega) j hj
    have hl := keepTo_length S.firm S.pend m kb k
    simp only [keepTo]
    split
    · rw [getD_set _ _ _ _ (by omega)]
      have hp : S.pend.getD k (0, ⟨#[]⟩) ∈ S.pend := by
        rw [List.getD_eq_getElem?_getD, List.getElem?_eq_getElem (by omega : k < S.pend.length)]
        exact List.getElem_mem _
      by_cases e : (S.pend.getD k (0, ⟨#[]⟩)).1 = j
      · rw [if_pos e, ← e]; exact h.pend _ hp
      · rw [if_neg e]; exact ih
    · exact ih
theorem crash (h : Dal Q S) (m : Nat) (kb : Nat → Bool) : Dal Q (S.crash m kb) :=
  start fun j hj => h.keep m kb _ (Nat.le_refl _) j (by rw [keepTo_length] at hj; exact hj)
end Dal
theorem write_ok {S : Dsk} {i : Nat} {d : ByteArray} (h : (S.write (i : Int) d).2 = 0) : (S.write (i : Int) d).1.firm = S.firm ∧ (S.write (i : Int) d).1.now = S.now.set i d := by
  unfold Dsk.write at h ⊢
  split at h
  · cases h
  rename_i a
  rw [if_neg a]
  split at h
  · rename_i b
    rw [if_pos b]
    split at h
    · cases h
    · rename_i c
      rw [if_neg c, Int.toNat_natCast]
      exact ⟨rfl, rfl⟩
  · cases h
namespace Lg
variable {Q R : Nat → ByteArray → Prop} {S : Dsk}
theorem wr_al (L : Lg) : ∀ (m k : Nat) (S : Dsk), Dal Q S → (∀ i, k ≤ i → i < k + m → Q (L.first + i % L.n) (L.sec i)) → Dal Q (L.wr m k S).1
  | 0, k, S, h, hq => h
  | m + 1, k, S, h, hq => by
    have a := h.write (L.first + k % L.n) (L.sec k) (hq k (Nat.le_refl _) (by omega))
    simp only [Lg.wr]
    split
    · exact wr_al L m (k + 1) _ a fun i h1 h2 => hq i (by omega) (by omega)
    · exact a
theorem wr_now (L : Lg) : ∀ (m k : Nat) (S : Dsk), Dal Q S → (∀ i, k ≤ i → i < k + m → Q (L.first + i % L.n) (L.sec i)) → (∀ i, k ≤ i → i < k + m → R (L.first + i % L.n) (L.sec i)) → (L.wr m k S).2 = 0 →
    (L.wr m k S).1.firm.length = S.firm.length ∧ ∀ j, j < S.firm.length → (R j (S.now.getD j ⟨#[]⟩) ∨ ∃ i, k ≤ i ∧ i < k + m ∧ j = L.first + i % L.n) → R j ((L.wr m k S).1.now.getD j ⟨#[]⟩)
  | 0, k, S, h, hq, hr, h0 => ⟨rfl, fun j hj hc => by
    rcases hc with hc | ⟨i, h1, h2, h3⟩
    · exact hc
    · omega⟩
  | m + 1, k, S, h, hq, hr, h0 => by
    have a := h.write (L.first + k % L.n) (L.sec k) (hq k (Nat.le_refl _) (by omega))
    simp only [Lg.wr] at h0 ⊢
    split at h0
    · rename_i c
      rw [if_pos c]
      obtain ⟨e1, e2⟩ := write_ok c
      obtain ⟨i1, i2⟩ := wr_now L m (k + 1) _ a (fun i h1 h2 => hq i (by omega) (by omega)) (fun i h1 h2 => hr i (by omega) (by omega)) h0
      rw [e1] at i1 i2
      refine ⟨i1, fun j hj hc => i2 j hj ?_⟩
      rw [e2, getD_set _ _ _ _ (by rw [h.len]; exact hj)]
      by_cases e : L.first + k % L.n = j
      · rw [if_pos e]; left; rw [← e]; exact hr k (Nat.le_refl _) (by omega)
      · rw [if_neg e]
        rcases hc with hc | ⟨i, h1, h2, h3⟩
        · exact .inl hc
        · refine .inr ⟨i, ?_, by omega, h3⟩
          rcases Nat.eq_or_lt_of_le h1 with h1 | h1
          · subst h1; exact absurd h3.symm e
          · exact h1
    · rename_i c
      exact absurd h0 c
theorem wipe_al (L : Lg) : ∀ (m i : Nat) (S : Dsk), Dal Q S → (∀ j, i ≤ j → j < i + m → Q (L.first + j) (L.want j)) → Dal Q (L.wipeFrom m i S).1
  | 0, i, S, h, hq => h.barrier
  | m + 1, i, S, h, hq => by
    have a := h.write (L.first + i) (L.want i) (hq i (Nat.le_refl _) (by omega))
    simp only [Lg.wipeFrom]
    split
    · exact wipe_al L m (i + 1) _ h fun j h1 h2 => hq j (by omega) (by omega)
    split
    · exact wipe_al L m (i + 1) _ a fun j h1 h2 => hq j (by omega) (by omega)
    · exact a
/-- A ring that was wiped holds what it should; the rest is as it was. -/
theorem wipe_now (L : Lg) : ∀ (m i : Nat) (S : Dsk), Dal Q S → (∀ j, i ≤ j → j < i + m → Q (L.first + j) (L.want j)) → (∀ j, i ≤ j → j < i + m → R (L.first + j) (L.want j)) → (∀ j, j < S.firm.length → R j (S.now.getD j ⟨#[]⟩) ∨ L.first + i ≤ j ∧ j < L.first + (i + m)) →
    (L.wipeFrom m i S).2 = 0 → Dal R (L.wipeFrom m i S).1
  | 0, i, S, h, hq, hr, hn, h0 => h.synced h0 fun j hj => by
    rcases hn j hj with k | ⟨k1, k2⟩
    · exact k
    · omega
  | m + 1, i, S, h, hq, hr, hn, h0 => by
    have a := h.write (L.first + i) (L.want i) (hq i (Nat.le_refl _) (by omega))
    simp only [Lg.wipeFrom] at h0 ⊢
    split at h0
    · rename_i c
      rw [if_pos c]
      refine wipe_now L m (i + 1) _ h (fun j h1 h2 => hq j (by omega) (by omega)) (fun j h1 h2 => hr j (by omega) (by omega)) (fun j hj => ?_) h0
      by_cases e : L.first + i = j
      · subst e; left; rw [c]; exact hr i (Nat.le_refl _) (by omega)
      · rcases hn j hj with k | k
        · exact .inl k
        · right; omega
    · rename_i c
      rw [if_neg c]
      split at h0
      · rename_i d
        rw [if_pos d]
        obtain ⟨e1, e2⟩ := write_ok d
        refine wipe_now L m (i + 1) _ a (fun j h1 h2 => hq j (by omega) (by omega)) (fun j h1 h2 => hr j (by omega) (by omega)) (fun j hj => ?_) h0
        rw [e1] at hj
        rw [e2, getD_set _ _ _ _ (by rw [h.len]; exact hj)]
        by_cases e : L.first + i = j
        · rw [if_pos e]; left; rw [← e]; exact hr i (Nat.le_refl _) (by omega)
        · rw [if_neg e]
          rcases hn j hj with k | k
          · exact .inl k
          · right; omega
      · rename_i d
        exact absurd h0 d
end Lg
end Go.Proofs.Ytplcddcdhnjfeaa
namespace Go.Proofs.Ytplcddcdhnjfeaa
open Go.RowKit

/-- Of the stream T from sector K on the device's sector j holds its part, at least what is ahead of F; or something that isn't taken for it. -/
def Rg (first n K : Nat) (T : ByteArray) (F : Nat) (j : Nat) (v : ByteArray) : Prop :=
  ∀ i, i < n → j = first + (K + i) % n → (F ≤ 54 * i ∧ secId v ≠ K + i + 1) ∨ ∃ c, c ≤ 54 ∧ min 54 (F - 54 * i) ≤ c ∧ 54 * i + c ≤ T.size ∧ v = secOf (K + i) (T.extract (54 * i) (54 * i + c))
theorem mod_le (K i k n : Nat) (h : i < n) (e : (K + i) % n = (K + k) % n) : i ≤ k := by
  have a := Nat.sub_mod_eq_zero_of_mod_eq e
  rw [Nat.mod_eq_of_lt (by omega)] at a
  omega
theorem mod_inj (K i k n : Nat) (h : i < n) (h2 : k < n) (e : (K + i) % n = (K + k) % n) : i = k := Nat.le_antisymm (mod_le K i k n h e) (mod_le K k i n h2 e.symm)
theorem blank_id : secId (Fr.zs 64) = 0 := by
  have e : Fr.zs 64 = Oct.str 0 8 ++ Fr.zs 56 := by decide
  show (Oct.rnum (some (Fr.zs 64)) 8).1 = 0
  have a : Oct.rnum (some (Oct.str 0 8 ++ Fr.zs 56)) 8 = _ := rnum_app (Oct.str 0 8) (Fr.zs 56) 8 (Oct.str_size _ _) (by omega) (by omega)
  rw [e, a, Oct.sval_str _ _ (by omega)]
theorem ext_ext (T : ByteArray) (t a b : Nat) (h : b ≤ t) : (T.extract 0 t).extract a b = T.extract a b := by
  rw [ByteArray.extract_extract]
  congr 1 <;> omega
theorem ext_app (T x : ByteArray) (a b : Nat) (h : b ≤ T.size) : (T ++ x).extract a b = T.extract a b := by
  apply ByteArray.ext
  have : T.data.size = T.size := rfl
  rw [ByteArray.data_extract, ByteArray.data_append, ByteArray.data_extract, Array.extract_append, this, Nat.sub_eq_zero_of_le h]
  simp
section
variable {first n K F : Nat} {T : ByteArray} {j : Nat} {v : ByteArray}
theorem rg_less {G : Nat} (h : Rg first n K T F j v) (hg : G ≤ F) : Rg first n K T G j v := fun i hi hj => by
  rcases h i hi hj with ⟨a, b⟩ | ⟨c, c1, c2, c3, c4⟩
  · exact .inl ⟨by omega, b⟩
  · exact .inr ⟨c, c1, by omega, c3, c4⟩
theorem rg_more (h : Rg first n K T F j v) (x : ByteArray) : Rg first n K (T ++ x) F j v := fun i hi hj => by
  rcases h i hi hj with a | ⟨c, c1, c2, c3, c4⟩
  · exact .inl a
  · exact .inr ⟨c, c1, c2, by rw [ByteArray.size_append]; omega, by rw [ext_app _ _ _ _ c3]; exact c4⟩
/-- What holds a head of the stream holds the stream, so far. -/
theorem rg_pre {t : Nat} (h : Rg first n K (T.extract 0 t) (T.extract 0 t).size j v) (hF : F ≤ (T.extract 0 t).size) : Rg first n K T F j v := fun i hi hj => by
  have hz : (T.extract 0 t).size = min t T.size := by rw [ByteArray.size_extract]; omega
  rcases h i hi hj with ⟨a, b⟩ | ⟨c, c1, c2, c3, c4⟩
  · exact .inl ⟨by omega, b⟩
  · exact .inr ⟨c, c1, by omega, by omega, by rw [ext_ext _ _ _ _ (by omega)] at c4; exact c4⟩
theorem rg_zs (h : ∀ i, i < n → j = first + (K + i) % n → F ≤ 54 * i) : Rg first n K T F j (Fr.zs 64) := fun i hi hj => .inl ⟨h i hi hj, by rw [blank_id]; omega⟩
theorem rg_blank : Rg first n K T 0 j (Fr.zs 64) := rg_zs fun i _ _ => Nat.zero_le _
end
theorem sec_rg {L : Lg} (h : L.ok) (i : Nat) (hi : i < L.n) (hs : 54 * i ≤ L.data.size) : Rg L.first L.n (L.start / 54) L.data L.data.size (L.first + (L.start / 54 + i) % L.n) (L.sec (L.start / 54 + i)) := fun k hk hj => by
  have := mod_inj (L.start / 54) i k L.n hi hk (by omega)
  subst this
  refine .inr ⟨min 54 (L.data.size - 54 * i), Nat.min_le_left _ _, Nat.le_refl _, by omega, ?_⟩
  rw [sec_secOf]
  have e : L.part (L.start / 54 + i) = L.data.extract (54 * i) (54 * i + min 54 (L.data.size - 54 * i)) := by
    unfold Lg.part
    rw [flr_mul]
    congr 1 <;> omega
  rw [e]
theorem wr_in {L : Lg} (h : L.ok) (k : Nat) (h1 : L.firm / 54 ≤ k) (h2 : k < L.firm / 54 + L.rounds) : ∃ i, k = L.start / 54 + i ∧ i < L.n ∧ 54 * i < L.data.size := by
  unfold Lg.rounds at h2
  have a1 := h.sf; have a2 := h.fe; have a3 := h.rm; have a4 := h.sz
  rw [flr_mul] at a3 a4
  have : L.start / 54 ≤ L.firm / 54 := Nat.div_le_div_right a1
  exact ⟨k - L.start / 54, by omega, by omega, by omega⟩
section
variable {L : Lg} {S : Dsk} {F : Nat}
theorem flush_rg (h : L.ok) (a : Dal (Rg L.first L.n (L.start / 54) L.data F) S) (hF : F ≤ L.data.size) (at_ : Int) : Dal (Rg L.first L.n (L.start / 54) L.data F) (L.flush S at_).2.1 := by
  have w := L.wr_al L.rounds (L.firm / 54) S a fun k h1 h2 => by
    obtain ⟨i, rfl, hi, hs⟩ := wr_in h k h1 h2
    exact rg_less (sec_rg h i hi (by omega)) hF
  unfold Lg.flush
  split
  · exact a
  split
  · exact w
  split
  · exact w.barrier
  · exact w.barrier
/-- Behind a flush that was made all is firm. -/
theorem flushed_rg (h : L.ok) (a : Dal (Rg L.first L.n (L.start / 54) L.data (L.firm - flr L.start)) S) (at_ : Int) (h0 : (L.flush S at_).2.2 = 0) : Dal (Rg L.first L.n (L.start / 54) L.data ((L.flush S at_).1.firm - flr L.start)) (L.flush S at_).2.1 ∧ (¬ at_ < L.firm → (L.flush S at_).1.firm = L.fin) := by
  have a1 := h.sf; have a2 := h.fe; have a3 := h.rm; have a4 := h.sz
  have hq : ∀ k, L.firm / 54 ≤ k → k < L.firm / 54 + L.rounds → Rg L.first L.n (L.start / 54) L.data L.data.size (L.first + k % L.n) (L.sec k) := fun k h1 h2 => by
    obtain ⟨i, rfl, hi, hs⟩ := wr_in h k h1 h2
    exact sec_rg h i hi (by omega)
  have fl := flr_le L.start
  have hF : L.firm - flr L.start ≤ L.data.size := by omega
  have w := L.wr_al L.rounds (L.firm / 54) S a fun k h1 h2 => rg_less (hq k h1 h2) hF
  have now := L.wr_now (R := Rg L.first L.n (L.start / 54) L.data L.data.size) L.rounds (L.firm / 54) S a (fun k h1 h2 => rg_less (hq k h1 h2) hF) hq
  unfold Lg.flush at h0 ⊢
  split at h0
  · rename_i c
    rw [if_pos c]
    exact ⟨a, fun hn => by rcases c with c | c; exact absurd c hn; exact c⟩
  rename_i c
  rw [if_neg c]
  split at h0
  · rename_i d; exact absurd h0 d
  rename_i d
  rw [if_neg d]
  split at h0
  · rename_i e; exact absurd h0 e
  rename_i e
  rw [if_neg e]
  refine ⟨?_, fun _ => rfl⟩
  show Dal (Rg L.first L.n (L.start / 54) L.data (L.fin - flr L.start)) _
  rw [← a4]
  obtain ⟨n1, n2⟩ := now (Decidable.not_not.1 d)
  refine w.synced (Decidable.not_not.1 e) fun j hj => ?_
  rw [n1] at hj
  refine n2 j hj ?_
  by_cases hx : ∃ i, L.firm / 54 ≤ i ∧ i < L.firm / 54 + L.rounds ∧ j = L.first + i % L.n
  · exact .inr hx
  · refine .inl fun i hi hji => ?_
    have hout : ¬ (L.firm / 54 ≤ L.start / 54 + i ∧ L.start / 54 + i < L.firm / 54 + L.rounds) := fun hh => hx ⟨_, hh.1, hh.2, hji⟩
    unfold Lg.rounds at hout
    have hsf : L.start / 54 ≤ L.firm / 54 := Nat.div_le_div_right a1
    have q := a.now j hj i hi hji
    rw [flr_mul] at q a4
    rcases q with ⟨q1, q2⟩ | ⟨c', c1, c2, c3, c4⟩
    · exact .inl ⟨by omega, q2⟩
    · exact .inr ⟨c', c1, by omega, c3, c4⟩
/-- What Open reads: a head of the stream, at least what is firm. -/
theorem read_rg {first n start : Nat} {T : ByteArray} (a : Dal (Rg first n (start / 54) T F) S) (hl : first + n ≤ S.firm.length) (h1 : 1 ≤ n) (hb : start / 54 + n ≤ 1152921504606846976) (hF : F ≤ T.size) (hn : F ≤ 54 * n) :
    ∃ t, t ≤ T.size ∧ F ≤ t ∧ (Lg.read first n start S).data = T.extract 0 t := by
  have g : ∀ j, j < n → Rg first n (start / 54) T F (first + (start / 54 + j) % n) ((Lg.bare first n start).get S (start / 54 + j)) := fun j hj => by
    have : (start / 54 + j) % n < n := Nat.mod_lt _ h1
    exact a.now _ (by omega)
  obtain ⟨t, t1, t2, t3, t4⟩ := ld_pre T ((Lg.bare first n start).get S) (start / 54) n 0 (Nat.zero_le _) (by omega) (fun j _ hj => by
    rcases g j (by omega) j (by omega) rfl with ⟨_, q⟩ | ⟨c, c1, c2, c3, c4⟩
    · exact .inl q
    · exact .inr ⟨c, c1, c3, c4⟩)
  refine ⟨t, t1, t4 F hF (by omega) (fun j _ hj hF => ?_), ?_⟩
  · rcases g j (by omega) j (by omega) rfl with ⟨q, _⟩ | ⟨c, c1, c2, c3, c4⟩
    · omega
    · exact ⟨c, c1, c2, c3, c4⟩
  · have e : T.extract 0 (54 * 0) = (⟨#[]⟩ : ByteArray) := by apply ByteArray.ext; simp
    rw [e] at t3
    exact t3
end
end Go.Proofs.Ytplcddcdhnjfeaa
namespace Go.Proofs.Ytplcddcdhnjfeaa
open Go.RowKit

theorem enc_take (rs : List ByteArray) (k : Nat) : (enc rs).extract 0 (total (rs.take k)) = enc (rs.take k) := by
  conv => lhs; rw [← List.take_append_drop k rs, enc_app]
  rw [List.take_append_drop, ← enc_size, Oct.take_app]
theorem pad_none (d : ByteArray) (a : Nat) (h : a ≤ d.size) : padTo d a = d := by
  unfold padTo
  rw [Nat.sub_eq_zero_of_le h]
  apply ByteArray.ext
  rw [ByteArray.data_append]
  show _ ++ (Fr.zs 0).data = _
  simp [Fr.zs]
theorem total_take (rs : List ByteArray) (k : Nat) : total (rs.take k) ≤ total rs := by
  have := total_app (rs.take k) (rs.drop k)
  rw [List.take_append_drop] at this
  omega
/-- Open finds the first records, at least what is firm. -/
theorem open_rg {first n start : Nat} {S : Dsk} {pre : ByteArray} {rs : List ByteArray} {f : Nat} (hp : pre.size = start % 54) (hr : ∀ r ∈ rs, 1 ≤ r.size ∧ r.size < 65536) (hf : f ≤ rs.length)
    (a : Dal (Rg first n (start / 54) (pre ++ enc rs) (pre.size + total (rs.take f))) S) (hl : first + n ≤ S.firm.length) (h1 : 1 ≤ n) (hb : start / 54 + n ≤ 1152921504606846976) (hn : pre.size + total (rs.take f) ≤ 54 * n) :
    ∃ k, f ≤ k ∧ k ≤ rs.length ∧ openRecs (Lg.read first n start S) = rs.take k ∧ (opened (Lg.read first n start S)).data = pre ++ enc (rs.take k) := by
  have hT : (pre ++ enc rs).size = pre.size + total rs := by rw [ByteArray.size_append, enc_size]
  have htk := total_take rs f
  obtain ⟨t, t1, t2, t3⟩ := read_rg a hl h1 hb (by rw [hT]; omega) hn
  have hz : ((pre ++ enc rs).extract 0 t).size = t := by rw [ByteArray.size_extract]; omega
  have hpad := pad_none ((pre ++ enc rs).extract 0 t) pre.size (by omega)
  obtain ⟨k, k1, k2, k3, k4⟩ := recs_behind pre rs t (t + 1) hr (by omega) (by omega)
  rw [hpad, hz] at k2
  have hs : (Lg.read first n start S).start = start := rfl
  have eo : openRecs (Lg.read first n start S) = rs.take k := by
    show recsFrom ((padTo (Lg.read first n start S).data ((Lg.read first n start S).start % 54)).size + 1) (some ((padTo (Lg.read first n start S).data ((Lg.read first n start S).start % 54)).extract ((Lg.read first n start S).start % 54) (padTo (Lg.read first n start S).data ((Lg.read first n start S).start % 54)).size)) = _
    rw [hs, t3, ← hp, hpad, hz]
    exact k2
  refine ⟨k, k4 f hf t2, k1, eo, ?_⟩
  show (padTo (Lg.read first n start S).data ((Lg.read first n start S).start % 54)).extract 0 ((Lg.read first n start S).start + total (openRecs (Lg.read first n start S)) - flr (Lg.read first n start S).start) = _
  have hfl : start - flr start = start % 54 ∧ flr start ≤ start := by unfold flr; omega
  rw [eo, hs, t3, ← hp, hpad, show start + total (rs.take k) - flr start = pre.size + total (rs.take k) by omega, ext_ext _ _ _ _ (by omega), ext_long _ _ _ (by omega), Nat.add_sub_cancel_left, enc_take]
theorem at_place (L : Lg) (i : Nat) (hi : i < L.n) : (L.start / 54 + (i + L.n - L.start / 54 % L.n) % L.n) % L.n = i := by
  generalize L.start / 54 = k
  have h1 : k % L.n < L.n := Nat.mod_lt _ (by omega)
  have h2 := Nat.div_add_mod k L.n
  rw [Nat.add_mod_mod, show k + (i + L.n - k % L.n) = i + L.n * (k / L.n + 1) by rw [Nat.mul_add, Nat.mul_one]; omega, Nat.add_mul_mod_self_left, Nat.mod_eq_of_lt hi]
theorem want_rg {L : Lg} (h : L.ok) (i : Nat) (hi : i < L.n) : Rg L.first L.n (L.start / 54) L.data L.data.size (L.first + i) (L.want i) := by
  have hp := at_place L i hi
  have hlt : (i + L.n - L.start / 54 % L.n) % L.n < L.n := Nat.mod_lt _ (by omega)
  have ea : L.at_ i = L.start / 54 + (i + L.n - L.start / 54 % L.n) % L.n := rfl
  have a1 := h.sf; have a2 := h.fe; have a4 := h.sz
  rw [flr_mul] at a4
  unfold Lg.want
  rw [ea]
  generalize (i + L.n - L.start / 54 % L.n) % L.n = k at *
  split
  · have := sec_rg h k hlt (by omega)
    rw [hp] at this
    exact this
  · refine rg_zs fun j hj he => ?_
    have : j = k := mod_inj (L.start / 54) j k L.n hj hlt (by omega)
    subst this
    omega
/-- Open's wipe: what was firm stays so; made whole, the ring holds just what was found. -/
theorem wipe_rg {L : Lg} {S : Dsk} {T : ByteArray} {F t : Nat} (h : L.ok) (a : Dal (Rg L.first L.n (L.start / 54) T F) S) (hT : L.data = T.extract 0 t) (hF : F ≤ L.data.size) :
    Dal (Rg L.first L.n (L.start / 54) T F) (L.wipeFrom L.n 0 S).1 ∧ ((L.wipeFrom L.n 0 S).2 = 0 → Dal (Rg L.first L.n (L.start / 54) L.data L.data.size) (L.wipeFrom L.n 0 S).1) := by
  have w : ∀ j, 0 ≤ j → j < 0 + L.n → Rg L.first L.n (L.start / 54) L.data L.data.size (L.first + j) (L.want j) := fun j _ hj => want_rg h j (by omega)
  have w' : ∀ j, 0 ≤ j → j < 0 + L.n → Rg L.first L.n (L.start / 54) T F (L.first + j) (L.want j) := fun j h0 hj => by
    have := w j h0 hj
    rw [hT] at this hF
    exact rg_pre this hF
  refine ⟨L.wipe_al L.n 0 S a w', fun h0 => L.wipe_now L.n 0 S a w' w (fun j hj => ?_) h0⟩
  by_cases hx : L.first ≤ j ∧ j < L.first + L.n
  · exact .inr ⟨by omega, by omega⟩
  · refine .inl fun i hi he => ?_
    have : (L.start / 54 + i) % L.n < L.n := Nat.mod_lt _ (by omega)
    omega
/-- A ring that was created. -/
theorem start_rg (N first n K : Nat) (T : ByteArray) : Dal (Rg first n K T 0) (.start (blanks N)) := Dal.start fun j hj => by
  have e : (blanks N).getD j ⟨#[]⟩ = Fr.zs 64 := by
    have hj' : j < N := by simpa [blanks] using hj
    simp [blanks, List.getD_eq_getElem?_getD, List.getElem?_replicate, hj']
  rw [e]; exact rg_blank
/-- A record more: the ring is as it was. -/
theorem more_rg {first n K F : Nat} {T : ByteArray} {S : Dsk} (a : Dal (Rg first n K T F) S) (x : ByteArray) : Dal (Rg first n K (T ++ x) F) S := a.mono fun j v h => rg_more h x
theorem burn_al {Q : Nat → ByteArray → Prop} {S : Dsk} (a : Dal Q S) (f : Int) (d : Bool) : Dal Q { S with fuel := f, down := d } := ⟨a.firm, a.pend, a.lv⟩
end Go.Proofs.Ytplcddcdhnjfeaa
namespace Go.Proofs.Ytplcddcdhnjfeaa
open Go.RowKit

/-- Down, or nothing is pending; never much. -/
structure Qt (N : Nat) (S : Dsk) : Prop where
  len : S.firm.length = N
  up : S.down = true ∨ S.pend = []
  few : S.pend.length ≤ 5000
theorem write_len (S : Dsk) (i : Int) (d : ByteArray) : (S.write i d).1.firm = S.firm := by
  unfold Dsk.write
  split
  · rfl
  split
  · split <;> rfl
  · rfl
theorem barrier_len (S : Dsk) : S.barrier.1.firm.length = S.firm.length := by
  unfold Dsk.barrier
  split
  · rfl
  split
  · rfl
  · exact apply_length _ _
theorem barrier_qt (S : Dsk) : (S.barrier.2 = 0 ∧ S.barrier.1.pend = []) ∨ (S.barrier.1.down = true ∧ S.barrier.1.pend = S.pend ∧ S.barrier.2 ≠ 0) := by
  unfold Dsk.barrier
  by_cases h : S.down = true
  · rw [if_pos h]; exact .inr ⟨h, rfl, (by show (20 : Int) ≠ 0; decide)⟩
  rw [if_neg h]
  by_cases h0 : S.fuel = 0
  · rw [if_pos h0]; exact .inr ⟨rfl, rfl, (by show (20 : Int) ≠ 0; decide)⟩
  · rw [if_neg h0]; exact .inl ⟨rfl, rfl⟩
theorem write_in (S : Dsk) (i : Nat) (d : ByteArray) (hi : i < S.firm.length) (hd : d.size = 64) : ((S.write (i : Int) d).2 = 0 ∧ (S.write (i : Int) d).1.pend.length = S.pend.length + 1 ∧ S.down = false ∧ (S.write (i : Int) d).1.down = false) ∨ ((S.write (i : Int) d).2 ≠ 0 ∧ (S.write (i : Int) d).1.down = true ∧ (S.write (i : Int) d).1.pend = S.pend) := by
  unfold Dsk.write
  by_cases h : S.down = true
  · rw [if_pos h]; exact .inr ⟨(by show (20 : Int) ≠ 0; decide), h, rfl⟩
  have hf : S.down = false := by simpa using h
  rw [if_neg h, if_pos ⟨by omega, by omega, hd⟩]
  by_cases h0 : S.fuel = 0
  · rw [if_pos h0]; exact .inr ⟨(by show (20 : Int) ≠ 0; decide), rfl, rfl⟩
  · rw [if_neg h0]; exact .inl ⟨rfl, by simp [Dsk.wrote], hf, hf⟩
namespace Lg
theorem wr_qt (L : Lg) (hn : 1 ≤ L.n) : ∀ (m k : Nat) (S : Dsk), L.first + L.n ≤ S.firm.length →
    (L.wr m k S).1.firm = S.firm ∧ (((L.wr m k S).2 ≠ 0 ∧ (L.wr m k S).1.down = true) ∨ (L.wr m k S).2 = 0) ∧ (L.wr m k S).1.pend.length ≤ S.pend.length + m ∧ (S.down = true → (L.wr m k S).1 = S)
  | 0, k, S, h => ⟨rfl, .inr rfl, Nat.le_refl _, fun _ => rfl⟩
  | m + 1, k, S, h => by
    have hk : k % L.n < L.n := Nat.mod_lt _ hn
    have hw := write_in S (L.first + k % L.n) (L.sec k) (by omega) (L.sec_size k)
    have hl := write_len S ((L.first + k % L.n : Nat) : Int) (L.sec k)
    simp only [Lg.wr]
    rcases hw with ⟨e, p, d, u⟩ | ⟨e, d, p⟩
    · rw [if_pos e]
      obtain ⟨a, b, c, dd⟩ := wr_qt L hn m (k + 1) _ (by rw [hl]; exact h)
      exact ⟨a.trans hl, b, by omega, fun x => by rw [d] at x; cases x⟩
    · rw [if_neg e]
      exact ⟨hl, .inl ⟨e, d⟩, by rw [p]; omega, fun x => by unfold Dsk.write; rw [if_pos x]⟩
end Lg
theorem flush_qt {N : Nat} {L : Lg} {S : Dsk} (h : L.ok) (q : Qt N S) (hN : L.first + L.n ≤ N) (at_ : Int) : Qt N (L.flush S at_).2.1 ∧ ((L.flush S at_).1.start = L.start ∧ (L.flush S at_).1.first = L.first ∧ (L.flush S at_).1.n = L.n ∧ (L.flush S at_).1.data = L.data ∧ (L.flush S at_).1.fin = L.fin ∧ (L.flush S at_).1.places = L.places) ∧ ((L.flush S at_).2.2 ≠ 0 → (L.flush S at_).1 = L) := by
  have hr : L.rounds ≤ 4098 := by
    have a1 := h.sf; have a2 := h.fe; have a3 := h.rm; have a4 := h.n2
    have := flr_le L.start
    rw [flr_mul] at a3
    have : L.start / 54 ≤ L.firm / 54 := Nat.div_le_div_right a1
    unfold Lg.rounds
    omega
  have n1 := h.n1
  obtain ⟨w1, w2, w3, w4⟩ := L.wr_qt (by omega) L.rounds (L.firm / 54) S (by rw [q.len]; exact hN)
  have wl : (L.wr L.rounds (L.firm / 54) S).1.firm.length = N := by rw [w1]; exact q.len
  have wf : (L.wr L.rounds (L.firm / 54) S).1.pend.length ≤ 5000 := by
    rcases q.up with u | u
    · rw [w4 u]; exact q.few
    · rw [u] at w3; simp only [List.length_nil] at w3; omega
  unfold Lg.flush
  split
  · exact ⟨q, ⟨rfl, rfl, rfl, rfl, rfl, rfl⟩, fun _ => rfl⟩
  split
  · rename_i a
    refine ⟨⟨wl, ?_, wf⟩, ⟨rfl, rfl, rfl, rfl, rfl, rfl⟩, fun _ => rfl⟩
    rcases w2 with w2 | w2
    · exact .inl w2.2
    · exact absurd w2 a
  have bl := barrier_len (L.wr L.rounds (L.firm / 54) S).1
  have bq : Qt N (L.wr L.rounds (L.firm / 54) S).1.barrier.1 := by
    rcases barrier_qt (L.wr L.rounds (L.firm / 54) S).1 with ⟨_, b⟩ | ⟨b, c, _⟩
    · exact ⟨bl.trans wl, .inr b, by rw [b]; exact Nat.zero_le _⟩
    · exact ⟨bl.trans wl, .inl b, by rw [c]; exact wf⟩
  split
  · exact ⟨bq, ⟨rfl, rfl, rfl, rfl, rfl, rfl⟩, fun _ => rfl⟩
  · rename_i a
    exact ⟨bq, ⟨rfl, rfl, rfl, rfl, rfl, rfl⟩, fun b => absurd b a⟩
theorem wipe_qt {N : Nat} (L : Lg) : ∀ (m i : Nat) (S : Dsk), S.firm.length = N → L.first + (i + m) ≤ N → (L.wipeFrom m i S).1.firm.length = N ∧ (L.wipeFrom m i S).1.pend.length ≤ S.pend.length + m
  | 0, i, S, h, hi => ⟨(barrier_len S).trans h, by
    show S.barrier.1.pend.length ≤ _
    rcases barrier_qt S with ⟨_, b⟩ | ⟨_, b, _⟩ <;> rw [b] <;> simp⟩
  | m + 1, i, S, h, hi => by
    have hw := write_in S (L.first + i) (L.want i) (by omega) (want_size L i)
    have hl := write_len S ((L.first + i : Nat) : Int) (L.want i)
    simp only [Lg.wipeFrom]
    split
    · obtain ⟨a, b⟩ := wipe_qt L m (i + 1) S h (by omega)
      exact ⟨a, by omega⟩
    split
    · obtain ⟨a, b⟩ := wipe_qt (N := N) L m (i + 1) (S.write ((L.first + i : Nat) : Int) (L.want i)).1 (by rw [hl]; exact h) (by omega)
      refine ⟨a, ?_⟩
      rcases hw with ⟨_, p, _⟩ | ⟨_, _, p⟩
      · omega
      · rw [p] at b; omega
    · refine ⟨by rw [hl]; exact h, ?_⟩
      rcases hw with ⟨_, p, _⟩ | ⟨_, _, p⟩
      · omega
      · rw [p]; omega
theorem crash_len (S : Dsk) (m : Nat) (kb : Nat → Bool) : (S.crash m kb).firm.length = S.firm.length := keepTo_length _ _ _ _ _
/-- What a wipe with fuel for it tells. -/
theorem wipe_full {N : Nat} (L : Lg) : ∀ (m i : Nat) (S : Dsk), S.firm.length = N → L.first + (i + m) ≤ N → S.down = false → S.fuel = -1 → (L.wipeFrom m i S).2 = 0
  | 0, i, S, h, hi, hd, hf => by
    show S.barrier.2 = 0
    unfold Dsk.barrier
    rw [if_neg (by rw [hd]; simp), if_neg (by omega)]
  | m + 1, i, S, h, hi, hd, hf => by
    have e : S.write ((L.first + i : Nat) : Int) (L.want i) = (S.wrote (L.first + i) (L.want i), 0) := by
      unfold Dsk.write
      rw [if_neg (by rw [hd]; simp), if_pos ⟨by omega, by omega, want_size L i⟩, if_neg (by omega), Int.toNat_natCast]
    simp only [Lg.wipeFrom]
    split
    · exact wipe_full L m (i + 1) S h (by omega) hd hf
    rw [e, if_pos rfl]
    exact wipe_full L m (i + 1) _ (by simpa [Dsk.wrote, Dsk.burnt] using h) (by omega) hd (by show (if 0 < S.fuel then S.fuel - 1 else S.fuel) = -1; rw [if_neg (by omega)]; exact hf)
end Go.Proofs.Ytplcddcdhnjfeaa
