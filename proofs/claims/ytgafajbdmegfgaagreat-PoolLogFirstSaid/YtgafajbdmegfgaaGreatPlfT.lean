/- What is read of a stream's sectors, of a stream's bytes: plain. No walk in sight. Of a head of a stream the first records are found: plain. What lies on a device through writes, barriers, crashes; what the sectors of a ring hold of a stream: plain. A ring's sectors hold a stream; so through Flush, a crash, Open's reading and its wipe: plain. What Open finds of a ring that holds a stream, and what it leaves there: plain. A device through a log's work: its size, its pending writes: plain. What WalPrefix's loop keeps: plain. Behind a crash, opened twice: plain. A log over its device, wherever it starts; what its ring's sectors are numbered; a cut; a device with fuel: plain. A log of records over its device, wherever it starts: through Append, Flush, a crash and Open, Cut: plain. A cut of a log: plain. A cut of a log of records over its device: plain. -/
import Derived.Test.YtgafajbdmegfgaaGreatWalOpen
import Derived.Test.YtgafajbdmegfgaaGreatDskWalk5
set_option linter.unusedVariables false
set_option linter.unusedSimpArgs false
set_option linter.unusedSectionVars false
namespace Go.Proofs.YtgafajbdmegfgaaGreat
open Go.RowKit

/-- Sector k of a stream, with these bytes. -/
def secOf (k : Nat) (p : ByteArray) : ByteArray := Oct.str (k + 1) 8 ++ Oct.str p.size 2 ++ p ++ Fr.zs (54 - p.size)
theorem sec_secOf (L : Lg) (k : Nat) : L.sec k = secOf k (L.part k) := rfl
theorem rbytes_app (a b : ByteArray) (n : Nat) (h : a.size = n) : Oct.rbytes (some (a ++ b)) n = (a, some b) := by
  show (if (n : Int) < 0 ∨ ((a ++ b).size : Int) < n then ((⟨#[]⟩ : ByteArray), (none : Oct.Rs)) else ((a ++ b).extract 0 (n : Int).toNat, some ((a ++ b).extract (n : Int).toNat (a ++ b).size))) = _
  rw [if_neg (by rw [ByteArray.size_append]; omega), Int.toNat_natCast, ← h, Oct.take_app, Oct.drop_app]
theorem rnum_app (a b : ByteArray) (n : Nat) (h : a.size = n) (h1 : 1 ≤ n) (h8 : n ≤ 8) : Oct.rnum (some (a ++ b)) n = (Oct.sval a, some b) := by
  show (if (n : Int) < 1 ∨ 8 < (n : Int) then ((0 : Nat), (none : Oct.Rs)) else (Oct.nval (Oct.rbytes (some (a ++ b)) n).1, (Oct.rbytes (some (a ++ b)) n).2)) = _
  rw [if_neg (by omega), rbytes_app a b n h]
  show (Oct.nval a, some b) = _
  unfold Oct.nval
  rw [if_pos (by omega)]
theorem rd_secOf (k : Nat) (p : ByteArray) (hp : p.size ≤ 54) (hk : k ≤ 1152921504606846976) : secId (secOf k p) = k + 1 ∧ secN (secOf k p) = p.size ∧ secB (secOf k p) = p := by
  have e : secOf k p = Oct.str (k + 1) 8 ++ (Oct.str p.size 2 ++ (p ++ Fr.zs (54 - p.size))) := by unfold secOf; simp only [ByteArray.append_assoc]
  have a := rnum_app (Oct.str (k + 1) 8) (Oct.str p.size 2 ++ (p ++ Fr.zs (54 - p.size))) 8 (Oct.str_size _ _) (by omega) (by omega)
  have b := rnum_app (Oct.str p.size 2) (p ++ Fr.zs (54 - p.size)) 2 (Oct.str_size _ _) (by omega) (by omega)
  rw [Oct.sval_str _ _ (by omega)] at a b
  have a' : Oct.rnum (some (secOf k p)) 8 = (k + 1, some (Oct.str p.size 2 ++ (p ++ Fr.zs (54 - p.size)))) := by rw [e]; exact a
  have n : secN (secOf k p) = p.size := by
    show (Oct.rnum (Oct.rnum (some (secOf k p)) 8).2 2).1 = _
    rw [a']; exact congrArg Prod.fst b
  refine ⟨?_, n, ?_⟩
  · show (Oct.rnum (some (secOf k p)) 8).1 = _
    rw [a']
  · show (Oct.rbytes (Oct.rnum (Oct.rnum (some (secOf k p)) 8).2 2).2 (secN (secOf k p))).1 = _
    rw [n, a']
    have b2 : (Oct.rnum (some (Oct.str p.size 2 ++ (p ++ Fr.zs (54 - p.size)))) 2).2 = some (p ++ Fr.zs (54 - p.size)) := congrArg Prod.snd b
    show (Oct.rbytes (Oct.rnum (some (Oct.str p.size 2 ++ (p ++ Fr.zs (54 - p.size)))) 2).2 p.size).1 = p
    rw [b2, rbytes_app p _ p.size rfl]
theorem ext_snoc (T : ByteArray) (a b : Nat) (h : a ≤ b) (hb : b ≤ T.size) : T.extract 0 a ++ T.extract a b = T.extract 0 b := by
  rw [ByteArray.extract_append_extract]
  congr 1 <;> omega
/-- Of a stream's sectors a head of the stream is gathered. -/
theorem ld_pre (T : ByteArray) (get : Nat → ByteArray) (K : Nat) : ∀ (m i : Nat), 54 * i ≤ T.size → K + i + m ≤ 1152921504606846976 →
    (∀ j, i ≤ j → j < i + m → secId (get (K + j)) ≠ K + j + 1 ∨ ∃ c, c ≤ 54 ∧ 54 * j + c ≤ T.size ∧ get (K + j) = secOf (K + j) (T.extract (54 * j) (54 * j + c))) →
    ∃ t, t ≤ T.size ∧ 54 * i ≤ t ∧ ldFrom get K m i (T.extract 0 (54 * i)) = T.extract 0 t ∧
      ∀ F, F ≤ T.size → F ≤ 54 * (i + m) → (∀ j, i ≤ j → j < i + m → 54 * j < F → ∃ c, c ≤ 54 ∧ min 54 (F - 54 * j) ≤ c ∧ 54 * j + c ≤ T.size ∧ get (K + j) = secOf (K + j) (T.extract (54 * j) (54 * j + c))) → F ≤ t
  | 0, i, hi, hK, hg => ⟨54 * i, hi, Nat.le_refl _, rfl, fun F h1 h2 h3 => by omega⟩
  | m + 1, i, hi, hK, hg => by
    have step : ldFrom get K (m + 1) i (T.extract 0 (54 * i)) = if secId (get (K + i)) ≠ K + i + 1 ∨ 54 < secN (get (K + i)) then T.extract 0 (54 * i) else if secN (get (K + i)) < 54 then T.extract 0 (54 * i) ++ secB (get (K + i)) else ldFrom get K m (i + 1) (T.extract 0 (54 * i) ++ secB (get (K + i))) := rfl
    rw [step]
    clear step
    by_cases hid : secId (get (K + i)) ≠ K + i + 1
    · refine ⟨54 * i, hi, Nat.le_refl _, by rw [if_pos (.inl hid)], fun F h1 h2 h3 => ?_⟩
      refine Nat.le_of_not_lt fun hlt => ?_
      obtain ⟨c, c1, c2, c3, c4⟩ := h3 i (Nat.le_refl _) (by omega) hlt
      have := (rd_secOf (K + i) (T.extract (54 * i) (54 * i + c)) (by rw [ByteArray.size_extract]; omega) (by omega)).1
      rw [← c4] at this
      exact hid this
    · rcases hg i (Nat.le_refl _) (by omega) with h | ⟨c, c1, c2, c3⟩
      · exact absurd h hid
      have hsz : (T.extract (54 * i) (54 * i + c)).size = c := by rw [ByteArray.size_extract]; omega
      obtain ⟨r1, r2, r3⟩ := rd_secOf (K + i) (T.extract (54 * i) (54 * i + c)) (by omega) (by omega)
      rw [← c3, hsz] at r2
      rw [← c3] at r1 r3
      have r4 := (rd_secOf (K + i) (T.extract (54 * i) (54 * i + c)) (by omega) (by omega)).2.2
      rw [r2, if_neg (by omega), c3, r4, ext_snoc T _ _ (by omega) c2]
      by_cases hc : c < 54
      · refine ⟨54 * i + c, c2, by omega, by rw [if_pos hc], fun F h1 h2 h3 => ?_⟩
        refine Nat.le_of_not_lt fun hlt => ?_
        obtain ⟨c', d1, d2, d3, d4⟩ := h3 i (Nat.le_refl _) (by omega) (by omega)
        have q := (rd_secOf (K + i) (T.extract (54 * i) (54 * i + c')) (by rw [ByteArray.size_extract]; omega) (by omega)).2.1
        rw [← d4, r2, ByteArray.size_extract] at q
        omega
      · have hc54 : c = 54 := by omega
        subst hc54
        rw [if_neg hc, show 54 * i + 54 = 54 * (i + 1) by omega]
        obtain ⟨t, t1, t2, t3, t4⟩ := ld_pre T get K m (i + 1) (by omega) (by omega) (fun j hj1 hj2 => hg j (by omega) (by omega))
        exact ⟨t, t1, by omega, t3, fun F h1 h2 h3 => by
          by_cases hF : F ≤ 54 * (i + 1)
          · omega
          · exact t4 F h1 (by omega) (fun j hj1 hj2 hj3 => h3 j (by omega) (by omega) hj3)⟩
end Go.Proofs.YtgafajbdmegfgaaGreat
namespace Go.Proofs.YtgafajbdmegfgaaGreat
open Go.RowKit

/-- Records as they stand in the stream. -/
def enc : List ByteArray → ByteArray
  | [] => ⟨#[]⟩
  | r :: l => (Oct.str r.size 2 ++ r) ++ enc l
theorem total_cons (x : ByteArray) (l : List ByteArray) : total (x :: l) = (2 + x.size) + total l := by simp [total]
theorem total_app : ∀ (a b : List ByteArray), total (a ++ b) = total a + total b
  | [], b => by simp [total]
  | x :: a, b => by rw [List.cons_append, total_cons, total_cons, total_app a b]; omega
theorem enc_size : ∀ l, (enc l).size = total l
  | [] => rfl
  | r :: l => by
    show ((Oct.str r.size 2 ++ r) ++ enc l).size = _
    rw [ByteArray.size_append, ByteArray.size_append, Oct.str_size, enc_size l, total_cons]
theorem enc_app : ∀ (a b : List ByteArray), enc (a ++ b) = enc a ++ enc b
  | [], b => by show enc b = (⟨#[]⟩ : ByteArray) ++ enc b; apply ByteArray.ext; simp
  | x :: a, b => by
    show (Oct.str x.size 2 ++ x) ++ enc (a ++ b) = ((Oct.str x.size 2 ++ x) ++ enc a) ++ enc b
    rw [enc_app a b, ByteArray.append_assoc (a := Oct.str x.size 2 ++ x)]
theorem enc_one (r : ByteArray) : enc [r] = Oct.str r.size 2 ++ r := by
  show (Oct.str r.size 2 ++ r) ++ (⟨#[]⟩ : ByteArray) = _
  apply ByteArray.ext; simp
theorem ext_long (a b : ByteArray) (t : Nat) (h : a.size ≤ t) : (a ++ b).extract 0 t = a ++ b.extract 0 (t - a.size) := by
  apply ByteArray.ext
  have : a.data.size = a.size := rfl
  rw [ByteArray.data_extract, ByteArray.data_append, ByteArray.data_append, ByteArray.data_extract, Array.extract_append, this, Nat.zero_sub]
  congr 1
  rw [Array.extract_eq_self_of_le (by omega)]
theorem ext_short (a b : ByteArray) (t : Nat) (h : t ≤ a.size) : (a ++ b).extract 0 t = a.extract 0 t := by
  apply ByteArray.ext
  have : a.data.size = a.size := rfl
  rw [ByteArray.data_extract, ByteArray.data_append, ByteArray.data_extract, Array.extract_append, this, Nat.zero_sub, Nat.sub_eq_zero_of_le h]
  simp
theorem rnum_short (s : ByteArray) (h : s.size < 2) : (Oct.rnum (some s) 2).1 = 0 := by
  have e : Oct.rnum (some s) 2 = (Oct.nval (Oct.rbytes (some s) 2).1, (Oct.rbytes (some s) 2).2) := by
    show (if (2 : Int) < 1 ∨ 8 < (2 : Int) then ((0 : Nat), (none : Oct.Rs)) else (Oct.nval (Oct.rbytes (some s) 2).1, (Oct.rbytes (some s) 2).2)) = _
    rw [if_neg (by omega)]
  have e2 : Oct.rbytes (some s) 2 = (⟨#[]⟩, none) := by
    show (if (2 : Int) < 0 ∨ (s.size : Int) < 2 then ((⟨#[]⟩ : ByteArray), (none : Oct.Rs)) else _) = _
    rw [if_pos (by omega)]
  rw [e, e2]
  rfl
theorem rbytes_short (s : ByteArray) (n : Nat) (h : s.size < n) : (Oct.rbytes (some s) n).2 = none := by
  show (if (n : Int) < 0 ∨ (s.size : Int) < n then ((⟨#[]⟩ : ByteArray), (none : Oct.Rs)) else _).2 = _
  rw [if_pos (by omega)]
theorem recs_step (m : Nat) (r s : ByteArray) (h0 : 1 ≤ r.size) (h1 : r.size < 65536) :
    recsFrom (m + 1) (some ((Oct.str r.size 2 ++ r) ++ s)) = r :: recsFrom m (some s) := by
  have a : Oct.rnum (some (Oct.str r.size 2 ++ (r ++ s))) 2 = _ := rnum_app (Oct.str r.size 2) (r ++ s) 2 (Oct.str_size _ _) (by omega) (by omega)
  rw [Oct.sval_str _ _ (by omega)] at a
  show (if (Oct.rnum (some ((Oct.str r.size 2 ++ r) ++ s)) 2).1 = 0 ∨ (Oct.rbytes (Oct.rnum (some ((Oct.str r.size 2 ++ r) ++ s)) 2).2 (Oct.rnum (some ((Oct.str r.size 2 ++ r) ++ s)) 2).1).2.isNone = true then [] else (Oct.rbytes (Oct.rnum (some ((Oct.str r.size 2 ++ r) ++ s)) 2).2 (Oct.rnum (some ((Oct.str r.size 2 ++ r) ++ s)) 2).1).1 :: recsFrom m (Oct.rbytes (Oct.rnum (some ((Oct.str r.size 2 ++ r) ++ s)) 2).2 (Oct.rnum (some ((Oct.str r.size 2 ++ r) ++ s)) 2).1).2) = _
  rw [ByteArray.append_assoc, a]
  dsimp only
  rw [rbytes_app r s r.size rfl, if_neg]
  rintro (h | h)
  · omega
  · cases h
theorem recs_stop (m : Nat) (r s : ByteArray) (t : Nat) (h1 : r.size < 65536) (ht : t < 2 + r.size) :
    recsFrom (m + 1) (some (((Oct.str r.size 2 ++ r) ++ s).extract 0 t)) = [] := by
  show (if (Oct.rnum (some (((Oct.str r.size 2 ++ r) ++ s).extract 0 t)) 2).1 = 0 ∨ (Oct.rbytes (Oct.rnum (some (((Oct.str r.size 2 ++ r) ++ s).extract 0 t)) 2).2 (Oct.rnum (some (((Oct.str r.size 2 ++ r) ++ s).extract 0 t)) 2).1).2.isNone = true then [] else _) = _
  refine if_pos ?_
  have hs := Oct.str_size r.size 2
  rw [ext_short _ _ _ (by rw [ByteArray.size_append]; omega)]
  by_cases h2 : t < 2
  · exact .inl (rnum_short _ (by rw [ByteArray.size_extract]; omega))
  · rw [ext_long _ _ _ (by omega)]
    have a : Oct.rnum (some (Oct.str r.size 2 ++ r.extract 0 (t - (Oct.str r.size 2).size))) 2 = _ := rnum_app (Oct.str r.size 2) (r.extract 0 (t - (Oct.str r.size 2).size)) 2 hs (by omega) (by omega)
    rw [Oct.sval_str _ _ (by omega)] at a
    rw [a]
    refine .inr ?_
    dsimp only
    rw [rbytes_short _ _ (by rw [ByteArray.size_extract]; omega)]
    rfl
theorem recs_none (m : Nat) (s : ByteArray) (h : s.size < 2) : recsFrom m (some s) = [] := by
  cases m with
  | zero => rfl
  | succ m =>
    show (if (Oct.rnum (some s) 2).1 = 0 ∨ (Oct.rbytes (Oct.rnum (some s) 2).2 (Oct.rnum (some s) 2).1).2.isNone = true then [] else _) = _
    exact if_pos (.inl (rnum_short s h))
/-- Of a head of a stream the first records are found, all that are whole in it. -/
theorem recs_pre : ∀ (rs : List ByteArray) (m t : Nat), (∀ r ∈ rs, 1 ≤ r.size ∧ r.size < 65536) → t ≤ total rs → t < m →
    ∃ k, k ≤ rs.length ∧ recsFrom m (some ((enc rs).extract 0 t)) = rs.take k ∧ total (rs.take k) ≤ t ∧ ∀ j, j ≤ rs.length → total (rs.take j) ≤ t → j ≤ k
  | [], m, t, hr, ht, hm => by
    refine ⟨0, Nat.le_refl _, ?_, Nat.zero_le _, fun j hj _ => hj⟩
    have ht0 : t ≤ 0 := ht
    exact recs_none m _ (by rw [ByteArray.size_extract]; omega)
  | r :: l, 0, t, hr, ht, hm => absurd hm (Nat.not_lt_zero _)
  | r :: l, m + 1, t, hr, ht, hm => by
    obtain ⟨a0, a1⟩ := hr r List.mem_cons_self
    have hs := Oct.str_size r.size 2
    have ht' : t ≤ (2 + r.size) + total l := by rw [← total_cons]; exact ht
    show ∃ k, k ≤ (r :: l).length ∧ recsFrom (m + 1) (some (((Oct.str r.size 2 ++ r) ++ enc l).extract 0 t)) = (r :: l).take k ∧ _
    by_cases h : t < 2 + r.size
    · refine ⟨0, Nat.zero_le _, recs_stop m r _ t a1 h, Nat.zero_le _, fun j hj h2 => ?_⟩
      cases j with
      | zero => exact Nat.le_refl _
      | succ j =>
        rw [List.take_succ_cons, total_cons] at h2
        omega
    · have hz : (Oct.str r.size 2 ++ r).size = 2 + r.size := by rw [ByteArray.size_append, hs]
      obtain ⟨k, k1, k2, k3, k4⟩ := recs_pre l m (t - (2 + r.size)) (fun x hx => hr x (List.mem_cons_of_mem _ hx)) (by omega) (by omega)
      refine ⟨k + 1, Nat.succ_le_succ k1, ?_, ?_, fun j hj h2 => ?_⟩
      · rw [ext_long _ _ _ (by omega), hz, recs_step m r _ a0 a1, k2]
        rfl
      · rw [List.take_succ_cons, total_cons]; omega
      · cases j with
        | zero => exact Nat.zero_le _
        | succ j =>
          rw [List.take_succ_cons, total_cons] at h2
          have := k4 j (by simpa using hj) (by omega)
          omega
/-- Behind what stands ahead of the first record of start's sector. -/
theorem recs_behind (pre : ByteArray) (rs : List ByteArray) (t m : Nat) (hr : ∀ r ∈ rs, 1 ≤ r.size ∧ r.size < 65536) (ht : t ≤ pre.size + total rs) (hm : t < m) :
    ∃ k, k ≤ rs.length ∧ recsFrom m (some ((padTo ((pre ++ enc rs).extract 0 t) pre.size).extract pre.size (padTo ((pre ++ enc rs).extract 0 t) pre.size).size)) = rs.take k ∧ (total (rs.take k) = 0 ∨ pre.size + total (rs.take k) ≤ t) ∧ ∀ j, j ≤ rs.length → pre.size + total (rs.take j) ≤ t → j ≤ k := by
  have hz : ((pre ++ enc rs).extract 0 t).size = t := by rw [ByteArray.size_extract, ByteArray.size_append, enc_size]; omega
  by_cases h : pre.size ≤ t
  · have e : padTo ((pre ++ enc rs).extract 0 t) pre.size = pre ++ (enc rs).extract 0 (t - pre.size) := by
      unfold padTo
      rw [hz, Nat.sub_eq_zero_of_le h, ext_long _ _ _ h]
      apply ByteArray.ext
      rw [ByteArray.data_append]
      show _ ++ (Fr.zs 0).data = _
      simp [Fr.zs]
    have e2 : (pre ++ (enc rs).extract 0 (t - pre.size)).extract pre.size (pre ++ (enc rs).extract 0 (t - pre.size)).size = (enc rs).extract 0 (t - pre.size) := Oct.drop_app _ _
    rw [e, e2]
    obtain ⟨k, k1, k2, k3, k4⟩ := recs_pre rs m (t - pre.size) hr (by omega) (by omega)
    exact ⟨k, k1, k2, .inr (by omega), fun j hj h2 => k4 j hj (by omega)⟩
  · refine ⟨0, Nat.zero_le _, ?_, .inl rfl, fun j hj h2 => by omega⟩
    have hp : (padTo ((pre ++ enc rs).extract 0 t) pre.size).size = pre.size := by rw [pad_size, hz]; omega
    exact recs_none m _ (by rw [ByteArray.size_extract, hp]; omega)
end Go.Proofs.YtgafajbdmegfgaaGreat
namespace Go.Proofs.YtgafajbdmegfgaaGreat
open Go.RowKit

/-- Each sector's firm bytes, and each pending write, are such. -/
structure Dal (Q : Nat → ByteArray → Prop) (S : Dsk) : Prop where
  firm : ∀ j, j < S.firm.length → Q j (S.firm.getD j ⟨#[]⟩)
  pend : ∀ p ∈ S.pend, Q p.1 p.2
  lv : S.now = apply S.firm S.pend
theorem getD_set (l : List ByteArray) (i j : Nat) (v : ByteArray) (hj : j < l.length) : (l.set i v).getD j ⟨#[]⟩ = if i = j then v else l.getD j ⟨#[]⟩ := by
  rw [List.getD_eq_getElem?_getD, List.getD_eq_getElem?_getD, List.getElem?_set]
  by_cases h : i = j
  · subst h; rw [if_pos rfl, if_pos hj, if_pos rfl]; rfl
  · rw [if_neg h, if_neg h]
theorem apply_all {Q : Nat → ByteArray → Prop} : ∀ (ps : List (Nat × ByteArray)) (l : List ByteArray), (∀ j, j < l.length → Q j (l.getD j ⟨#[]⟩)) → (∀ p ∈ ps, Q p.1 p.2) → ∀ j, j < l.length → Q j ((apply l ps).getD j ⟨#[]⟩)
  | [], l, h, _, j, hj => h j hj
  | p :: ps, l, h, hp, j, hj => by
    show Q j ((apply (l.set p.1 p.2) ps).getD j ⟨#[]⟩)
    refine apply_all ps _ (fun i hi => ?_) (fun q hq => hp q (List.mem_cons_of_mem _ hq)) j (by rw [List.length_set]; exact hj)
    rw [List.length_set] at hi
    rw [getD_set _ _ _ _ hi]
    by_cases e : p.1 = i
    · rw [if_pos e, ← e]; exact hp p List.mem_cons_self
    · rw [if_neg e]; exact h i hi
theorem apply_snoc (l : List ByteArray) (ps : List (Nat × ByteArray)) (p : Nat × ByteArray) : apply l (ps ++ [p]) = (apply l ps).set p.1 p.2 := by unfold apply; rw [List.foldl_append]; rfl
namespace Dal
variable {Q R : Nat → ByteArray → Prop} {S : Dsk}
theorem mono (h : Dal Q S) (k : ∀ j v, Q j v → R j v) : Dal R S := ⟨fun j hj => k _ _ (h.firm j hj), fun p hp => k _ _ (h.pend p hp), h.lv⟩
theorem len (h : Dal Q S) : S.now.length = S.firm.length := by rw [h.lv, apply_length]
theorem now (h : Dal Q S) (j : Nat) (hj : j < S.firm.length) : Q j (S.now.getD j ⟨#[]⟩) := by rw [h.lv]; exact apply_all _ _ h.firm h.pend j hj
theorem start {l : List ByteArray} (h : ∀ j, j < l.length → Q j (l.getD j ⟨#[]⟩)) : Dal Q (.start l) := ⟨h, fun p hp => (List.not_mem_nil hp).elim, rfl⟩
theorem down (h : Dal Q S) : Dal Q { S with down := true } := ⟨h.firm, h.pend, h.lv⟩
theorem write (h : Dal Q S) (i : Nat) (d : ByteArray) (hq : Q i d) : Dal Q (S.write (i : Int) d).1 := by
  unfold Dsk.write
  split
  · exact h
  split
  · split
    · exact h.down
    · refine ⟨h.firm, fun p hp => ?_, ?_⟩
      · rcases List.mem_append.1 hp with hp | hp
        · exact h.pend p hp
        · rw [List.mem_singleton.1 hp, Int.toNat_natCast]; exact hq
      · show S.now.set _ d = apply S.firm (S.pend ++ [(_, d)])
        rw [apply_snoc, h.lv]
  · exact h
theorem barrier (h : Dal Q S) : Dal Q S.barrier.1 := by
  unfold Dsk.barrier
  split
  · exact h
  split
  · exact h.down
  · exact ⟨fun j hj => by
      have hl : (apply S.firm S.pend).length = S.firm.length := apply_length _ _
      exact apply_all _ _ h.firm h.pend j (by rw [← hl]; exact hj), fun p hp => (List.not_mem_nil hp).elim, h.lv⟩
/-- Behind a barrier what was there at the last is firm. -/
theorem synced (h : Dal Q S) (h0 : S.barrier.2 = 0) (k : ∀ j, j < S.firm.length → R j (S.now.getD j ⟨#[]⟩)) : Dal R S.barrier.1 := by
  unfold Dsk.barrier at h0 ⊢
  split at h0
  · cases h0
  rename_i a
  rw [if_neg a]
  split at h0
  · cases h0
  rename_i b
  rw [if_neg b]
  refine ⟨fun j hj => ?_, fun p hp => (List.not_mem_nil hp).elim, h.lv⟩
  have hl : (apply S.firm S.pend).length = S.firm.length := apply_length _ _
  have := k j (by rw [← hl]; exact hj)
  rw [h.lv] at this
  exact this
theorem keep (h : Dal Q S) (m : Nat) (kb : Nat → Bool) : ∀ k, k ≤ S.pend.length → ∀ j, j < S.firm.length → Q j ((keepTo S.firm S.pend m kb k).getD j ⟨#[]⟩)
  | 0, _, j, hj => h.firm j hj
  | k + 1, hk, j, hj => by
    have ih := keep h m kb k (by omega) j hj
    have hl := keepTo_length S.firm S.pend m kb k
    simp only [keepTo]
    split
    · rw [getD_set _ _ _ _ (by omega)]
      have hp : S.pend.getD k (0, ⟨#[]⟩) ∈ S.pend := by
        rw [List.getD_eq_getElem?_getD, List.getElem?_eq_getElem (by omega : k < S.pend.length)]
        exact List.getElem_mem _
      by_cases e : (S.pend.getD k (0, ⟨#[]⟩)).1 = j
      · rw [if_pos e, ← e]; exact h.pend _ hp
      · rw [if_neg e]; exact ih
    · exact ih
theorem crash (h : Dal Q S) (m : Nat) (kb : Nat → Bool) : Dal Q (S.crash m kb) :=
  start fun j hj => h.keep m kb _ (Nat.le_refl _) j (by rw [keepTo_length] at hj; exact hj)
end Dal
theorem write_ok {S : Dsk} {i : Nat} {d : ByteArray} (h : (S.write (i : Int) d).2 = 0) : (S.write (i : Int) d).1.firm = S.firm ∧ (S.write (i : Int) d).1.now = S.now.set i d := by
  unfold Dsk.write at h ⊢
  split at h
  · cases h
  rename_i a
  rw [if_neg a]
  split at h
  · rename_i b
    rw [if_pos b]
    split at h
    · cases h
    · rename_i c
      rw [if_neg c, Int.toNat_natCast]
      exact ⟨rfl, rfl⟩
  · cases h
namespace Lg
variable {Q R : Nat → ByteArray → Prop} {S : Dsk}
theorem wr_al (L : Lg) : ∀ (m k : Nat) (S : Dsk), Dal Q S → (∀ i, k ≤ i → i < k + m → Q (L.first + i % L.n) (L.sec i)) → Dal Q (L.wr m k S).1
  | 0, k, S, h, hq => h
  | m + 1, k, S, h, hq => by
    have a := h.write (L.first + k % L.n) (L.sec k) (hq k (Nat.le_refl _) (by omega))
    simp only [Lg.wr]
    split
    · exact wr_al L m (k + 1) _ a fun i h1 h2 => hq i (by omega) (by omega)
    · exact a
theorem wr_now (L : Lg) : ∀ (m k : Nat) (S : Dsk), Dal Q S → (∀ i, k ≤ i → i < k + m → Q (L.first + i % L.n) (L.sec i)) → (∀ i, k ≤ i → i < k + m → R (L.first + i % L.n) (L.sec i)) → (L.wr m k S).2 = 0 →
    (L.wr m k S).1.firm.length = S.firm.length ∧ ∀ j, j < S.firm.length → (R j (S.now.getD j ⟨#[]⟩) ∨ ∃ i, k ≤ i ∧ i < k + m ∧ j = L.first + i % L.n) → R j ((L.wr m k S).1.now.getD j ⟨#[]⟩)
  | 0, k, S, h, hq, hr, h0 => ⟨rfl, fun j hj hc => by
    rcases hc with hc | ⟨i, h1, h2, h3⟩
    · exact hc
    · omega⟩
  | m + 1, k, S, h, hq, hr, h0 => by
    have a := h.write (L.first + k % L.n) (L.sec k) (hq k (Nat.le_refl _) (by omega))
    simp only [Lg.wr] at h0 ⊢
    split at h0
    · rename_i c
      rw [if_pos c]
      obtain ⟨e1, e2⟩ := write_ok c
      obtain ⟨i1, i2⟩ := wr_now L m (k + 1) _ a (fun i h1 h2 => hq i (by omega) (by omega)) (fun i h1 h2 => hr i (by omega) (by omega)) h0
      rw [e1] at i1 i2
      refine ⟨i1, fun j hj hc => i2 j hj ?_⟩
      rw [e2, getD_set _ _ _ _ (by rw [h.len]; exact hj)]
      by_cases e : L.first + k % L.n = j
      · rw [if_pos e]; left; rw [← e]; exact hr k (Nat.le_refl _) (by omega)
      · rw [if_neg e]
        rcases hc with hc | ⟨i, h1, h2, h3⟩
        · exact .inl hc
        · refine .inr ⟨i, ?_, by omega, h3⟩
          rcases Nat.eq_or_lt_of_le h1 with h1 | h1
          · subst h1; exact absurd h3.symm e
          · exact h1
    · rename_i c
      exact absurd h0 c
theorem wipe_al (L : Lg) : ∀ (m i : Nat) (S : Dsk), Dal Q S → (∀ j, i ≤ j → j < i + m → Q (L.first + j) (L.want j)) → Dal Q (L.wipeFrom m i S).1
  | 0, i, S, h, hq => h.barrier
  | m + 1, i, S, h, hq => by
    have a := h.write (L.first + i) (L.want i) (hq i (Nat.le_refl _) (by omega))
    simp only [Lg.wipeFrom]
    split
    · exact wipe_al L m (i + 1) _ h fun j h1 h2 => hq j (by omega) (by omega)
    split
    · exact wipe_al L m (i + 1) _ a fun j h1 h2 => hq j (by omega) (by omega)
    · exact a
/-- A ring that was wiped holds what it should; the rest is as it was. -/
theorem wipe_now (L : Lg) : ∀ (m i : Nat) (S : Dsk), Dal Q S → (∀ j, i ≤ j → j < i + m → Q (L.first + j) (L.want j)) → (∀ j, i ≤ j → j < i + m → R (L.first + j) (L.want j)) → (∀ j, j < S.firm.length → R j (S.now.getD j ⟨#[]⟩) ∨ L.first + i ≤ j ∧ j < L.first + (i + m)) →
    (L.wipeFrom m i S).2 = 0 → Dal R (L.wipeFrom m i S).1
  | 0, i, S, h, hq, hr, hn, h0 => h.synced h0 fun j hj => by
    rcases hn j hj with k | ⟨k1, k2⟩
    · exact k
    · omega
  | m + 1, i, S, h, hq, hr, hn, h0 => by
    have a := h.write (L.first + i) (L.want i) (hq i (Nat.le_refl _) (by omega))
    simp only [Lg.wipeFrom] at h0 ⊢
    split at h0
    · rename_i c
      rw [if_pos c]
      refine wipe_now L m (i + 1) _ h (fun j h1 h2 => hq j (by omega) (by omega)) (fun j h1 h2 => hr j (by omega) (by omega)) (fun j hj => ?_) h0
      by_cases e : L.first + i = j
      · subst e; left; rw [c]; exact hr i (Nat.le_refl _) (by omega)
      · rcases hn j hj with k | k
        · exact .inl k
        · right; omega
    · rename_i c
      rw [if_neg c]
      split at h0
      · rename_i d
        rw [if_pos d]
        obtain ⟨e1, e2⟩ := write_ok d
        refine wipe_now L m (i + 1) _ a (fun j h1 h2 => hq j (by omega) (by omega)) (fun j h1 h2 => hr j (by omega) (by omega)) (fun j hj => ?_) h0
        rw [e1] at hj
        rw [e2, getD_set _ _ _ _ (by rw [h.len]; exact hj)]
        by_cases e : L.first + i = j
        · rw [if_pos e]; left; rw [← e]; exact hr i (Nat.le_refl _) (by omega)
        · rw [if_neg e]
          rcases hn j hj with k | k
          · exact .inl k
          · right; omega
      · rename_i d
        exact absurd h0 d
end Lg
end Go.Proofs.YtgafajbdmegfgaaGreat
namespace Go.Proofs.YtgafajbdmegfgaaGreat
open Go.RowKit

/-- Of the stream T from sector K on the device's sector j holds its part, at least what is ahead of F; or something that isn't taken for it. -/
def Rg (first n K : Nat) (T : ByteArray) (F : Nat) (j : Nat) (v : ByteArray) : Prop :=
  ∀ i, i < n → j = first + (K + i) % n → (F ≤ 54 * i ∧ secId v ≠ K + i + 1) ∨ ∃ c, c ≤ 54 ∧ min 54 (F - 54 * i) ≤ c ∧ 54 * i + c ≤ T.size ∧ v = secOf (K + i) (T.extract (54 * i) (54 * i + c))
theorem mod_le (K i k n : Nat) (h : i < n) (e : (K + i) % n = (K + k) % n) : i ≤ k := by
  have a := Nat.sub_mod_eq_zero_of_mod_eq e
  rw [Nat.mod_eq_of_lt (by omega)] at a
  omega
theorem mod_inj (K i k n : Nat) (h : i < n) (h2 : k < n) (e : (K + i) % n = (K + k) % n) : i = k := Nat.le_antisymm (mod_le K i k n h e) (mod_le K k i n h2 e.symm)
theorem blank_id : secId (Fr.zs 64) = 0 := by
  have e : Fr.zs 64 = Oct.str 0 8 ++ Fr.zs 56 := by decide
  show (Oct.rnum (some (Fr.zs 64)) 8).1 = 0
  have a : Oct.rnum (some (Oct.str 0 8 ++ Fr.zs 56)) 8 = _ := rnum_app (Oct.str 0 8) (Fr.zs 56) 8 (Oct.str_size _ _) (by omega) (by omega)
  rw [e, a, Oct.sval_str _ _ (by omega)]
theorem ext_ext (T : ByteArray) (t a b : Nat) (h : b ≤ t) : (T.extract 0 t).extract a b = T.extract a b := by
  rw [ByteArray.extract_extract]
  congr 1 <;> omega
theorem ext_app (T x : ByteArray) (a b : Nat) (h : b ≤ T.size) : (T ++ x).extract a b = T.extract a b := by
  apply ByteArray.ext
  have : T.data.size = T.size := rfl
  rw [ByteArray.data_extract, ByteArray.data_append, ByteArray.data_extract, Array.extract_append, this, Nat.sub_eq_zero_of_le h]
  simp
section
variable {first n K F : Nat} {T : ByteArray} {j : Nat} {v : ByteArray}
theorem rg_less {G : Nat} (h : Rg first n K T F j v) (hg : G ≤ F) : Rg first n K T G j v := fun i hi hj => by
  rcases h i hi hj with ⟨a, b⟩ | ⟨c, c1, c2, c3, c4⟩
  · exact .inl ⟨by omega, b⟩
  · exact .inr ⟨c, c1, by omega, c3, c4⟩
theorem rg_more (h : Rg first n K T F j v) (x : ByteArray) : Rg first n K (T ++ x) F j v := fun i hi hj => by
  rcases h i hi hj with a | ⟨c, c1, c2, c3, c4⟩
  · exact .inl a
  · exact .inr ⟨c, c1, c2, by rw [ByteArray.size_append]; omega, by rw [ext_app _ _ _ _ c3]; exact c4⟩
/-- What holds a head of the stream holds the stream, so far. -/
theorem rg_pre {t : Nat} (h : Rg first n K (T.extract 0 t) (T.extract 0 t).size j v) (hF : F ≤ (T.extract 0 t).size) : Rg first n K T F j v := fun i hi hj => by
  have hz : (T.extract 0 t).size = min t T.size := by rw [ByteArray.size_extract]; omega
  rcases h i hi hj with ⟨a, b⟩ | ⟨c, c1, c2, c3, c4⟩
  · exact .inl ⟨by omega, b⟩
  · exact .inr ⟨c, c1, by omega, by omega, by rw [ext_ext _ _ _ _ (by omega)] at c4; exact c4⟩
theorem rg_zs (h : ∀ i, i < n → j = first + (K + i) % n → F ≤ 54 * i) : Rg first n K T F j (Fr.zs 64) := fun i hi hj => .inl ⟨h i hi hj, by rw [blank_id]; omega⟩
theorem rg_blank : Rg first n K T 0 j (Fr.zs 64) := rg_zs fun i _ _ => Nat.zero_le _
end
theorem sec_rg {L : Lg} (h : L.ok) (i : Nat) (hi : i < L.n) (hs : 54 * i ≤ L.data.size) : Rg L.first L.n (L.start / 54) L.data L.data.size (L.first + (L.start / 54 + i) % L.n) (L.sec (L.start / 54 + i)) := fun k hk hj => by
  have := mod_inj (L.start / 54) i k L.n hi hk (by omega)
  subst this
  refine .inr ⟨min 54 (L.data.size - 54 * i), Nat.min_le_left _ _, Nat.le_refl _, by omega, ?_⟩
  rw [sec_secOf]
  have e : L.part (L.start / 54 + i) = L.data.extract (54 * i) (54 * i + min 54 (L.data.size - 54 * i)) := by
    unfold Lg.part
    rw [flr_mul]
    congr 1 <;> omega
  rw [e]
theorem wr_in {L : Lg} (h : L.ok) (k : Nat) (h1 : L.firm / 54 ≤ k) (h2 : k < L.firm / 54 + L.rounds) : ∃ i, k = L.start / 54 + i ∧ i < L.n ∧ 54 * i < L.data.size := by
  unfold Lg.rounds at h2
  have a1 := h.sf; have a2 := h.fe; have a3 := h.rm; have a4 := h.sz
  rw [flr_mul] at a3 a4
  have : L.start / 54 ≤ L.firm / 54 := Nat.div_le_div_right a1
  exact ⟨k - L.start / 54, by omega, by omega, by omega⟩
section
variable {L : Lg} {S : Dsk} {F : Nat}
theorem flush_rg (h : L.ok) (a : Dal (Rg L.first L.n (L.start / 54) L.data F) S) (hF : F ≤ L.data.size) (at_ : Int) : Dal (Rg L.first L.n (L.start / 54) L.data F) (L.flush S at_).2.1 := by
  have w := L.wr_al L.rounds (L.firm / 54) S a fun k h1 h2 => by
    obtain ⟨i, rfl, hi, hs⟩ := wr_in h k h1 h2
    exact rg_less (sec_rg h i hi (by omega)) hF
  unfold Lg.flush
  split
  · exact a
  split
  · exact w
  split
  · exact w.barrier
  · exact w.barrier
/-- Behind a flush that was made all is firm. -/
theorem flushed_rg (h : L.ok) (a : Dal (Rg L.first L.n (L.start / 54) L.data (L.firm - flr L.start)) S) (at_ : Int) (h0 : (L.flush S at_).2.2 = 0) : Dal (Rg L.first L.n (L.start / 54) L.data ((L.flush S at_).1.firm - flr L.start)) (L.flush S at_).2.1 ∧ (¬ at_ < L.firm → (L.flush S at_).1.firm = L.fin) := by
  have a1 := h.sf; have a2 := h.fe; have a3 := h.rm; have a4 := h.sz
  have hq : ∀ k, L.firm / 54 ≤ k → k < L.firm / 54 + L.rounds → Rg L.first L.n (L.start / 54) L.data L.data.size (L.first + k % L.n) (L.sec k) := fun k h1 h2 => by
    obtain ⟨i, rfl, hi, hs⟩ := wr_in h k h1 h2
    exact sec_rg h i hi (by omega)
  have fl := flr_le L.start
  have hF : L.firm - flr L.start ≤ L.data.size := by omega
  have w := L.wr_al L.rounds (L.firm / 54) S a fun k h1 h2 => rg_less (hq k h1 h2) hF
  have now := L.wr_now (R := Rg L.first L.n (L.start / 54) L.data L.data.size) L.rounds (L.firm / 54) S a (fun k h1 h2 => rg_less (hq k h1 h2) hF) hq
  unfold Lg.flush at h0 ⊢
  split at h0
  · rename_i c
    rw [if_pos c]
    exact ⟨a, fun hn => by rcases c with c | c; exact absurd c hn; exact c⟩
  rename_i c
  rw [if_neg c]
  split at h0
  · rename_i d; exact absurd h0 d
  rename_i d
  rw [if_neg d]
  split at h0
  · rename_i e; exact absurd h0 e
  rename_i e
  rw [if_neg e]
  refine ⟨?_, fun _ => rfl⟩
  show Dal (Rg L.first L.n (L.start / 54) L.data (L.fin - flr L.start)) _
  rw [← a4]
  obtain ⟨n1, n2⟩ := now (Decidable.not_not.1 d)
  refine w.synced (Decidable.not_not.1 e) fun j hj => ?_
  rw [n1] at hj
  refine n2 j hj ?_
  by_cases hx : ∃ i, L.firm / 54 ≤ i ∧ i < L.firm / 54 + L.rounds ∧ j = L.first + i % L.n
  · exact .inr hx
  · refine .inl fun i hi hji => ?_
    have hout : ¬ (L.firm / 54 ≤ L.start / 54 + i ∧ L.start / 54 + i < L.firm / 54 + L.rounds) := fun hh => hx ⟨_, hh.1, hh.2, hji⟩
    unfold Lg.rounds at hout
    have hsf : L.start / 54 ≤ L.firm / 54 := Nat.div_le_div_right a1
    have q := a.now j hj i hi hji
    rw [flr_mul] at q a4
    rcases q with ⟨q1, q2⟩ | ⟨c', c1, c2, c3, c4⟩
    · exact .inl ⟨by omega, q2⟩
    · exact .inr ⟨c', c1, by omega, c3, c4⟩
/-- What Open reads: a head of the stream, at least what is firm. -/
theorem read_rg {first n start : Nat} {T : ByteArray} (a : Dal (Rg first n (start / 54) T F) S) (hl : first + n ≤ S.firm.length) (h1 : 1 ≤ n) (hb : start / 54 + n ≤ 1152921504606846976) (hF : F ≤ T.size) (hn : F ≤ 54 * n) :
    ∃ t, t ≤ T.size ∧ F ≤ t ∧ (Lg.read first n start S).data = T.extract 0 t := by
  have g : ∀ j, j < n → Rg first n (start / 54) T F (first + (start / 54 + j) % n) ((Lg.bare first n start).get S (start / 54 + j)) := fun j hj => by
    have : (start / 54 + j) % n < n := Nat.mod_lt _ h1
    exact a.now _ (by omega)
  obtain ⟨t, t1, t2, t3, t4⟩ := ld_pre T ((Lg.bare first n start).get S) (start / 54) n 0 (Nat.zero_le _) (by omega) (fun j _ hj => by
    rcases g j (by omega) j (by omega) rfl with ⟨_, q⟩ | ⟨c, c1, c2, c3, c4⟩
    · exact .inl q
    · exact .inr ⟨c, c1, c3, c4⟩)
  refine ⟨t, t1, t4 F hF (by omega) (fun j _ hj hF => ?_), ?_⟩
  · rcases g j (by omega) j (by omega) rfl with ⟨q, _⟩ | ⟨c, c1, c2, c3, c4⟩
    · omega
    · exact ⟨c, c1, c2, c3, c4⟩
  · have e : T.extract 0 (54 * 0) = (⟨#[]⟩ : ByteArray) := by apply ByteArray.ext; simp
    rw [e] at t3
    exact t3
end
end Go.Proofs.YtgafajbdmegfgaaGreat
namespace Go.Proofs.YtgafajbdmegfgaaGreat
open Go.RowKit

theorem enc_take (rs : List ByteArray) (k : Nat) : (enc rs).extract 0 (total (rs.take k)) = enc (rs.take k) := by
  conv => lhs; rw [← List.take_append_drop k rs, enc_app]
  rw [List.take_append_drop, ← enc_size, Oct.take_app]
theorem pad_none (d : ByteArray) (a : Nat) (h : a ≤ d.size) : padTo d a = d := by
  unfold padTo
  rw [Nat.sub_eq_zero_of_le h]
  apply ByteArray.ext
  rw [ByteArray.data_append]
  show _ ++ (Fr.zs 0).data = _
  simp [Fr.zs]
theorem total_take (rs : List ByteArray) (k : Nat) : total (rs.take k) ≤ total rs := by
  have := total_app (rs.take k) (rs.drop k)
  rw [List.take_append_drop] at this
  omega
/-- Open finds the first records, at least what is firm. -/
theorem open_rg {first n start : Nat} {S : Dsk} {pre : ByteArray} {rs : List ByteArray} {f : Nat} (hp : pre.size = start % 54) (hr : ∀ r ∈ rs, 1 ≤ r.size ∧ r.size < 65536) (hf : f ≤ rs.length)
    (a : Dal (Rg first n (start / 54) (pre ++ enc rs) (pre.size + total (rs.take f))) S) (hl : first + n ≤ S.firm.length) (h1 : 1 ≤ n) (hb : start / 54 + n ≤ 1152921504606846976) (hn : pre.size + total (rs.take f) ≤ 54 * n) :
    ∃ k, f ≤ k ∧ k ≤ rs.length ∧ openRecs (Lg.read first n start S) = rs.take k ∧ (opened (Lg.read first n start S)).data = pre ++ enc (rs.take k) := by
  have hT : (pre ++ enc rs).size = pre.size + total rs := by rw [ByteArray.size_append, enc_size]
  have htk := total_take rs f
  obtain ⟨t, t1, t2, t3⟩ := read_rg a hl h1 hb (by rw [hT]; omega) hn
  have hz : ((pre ++ enc rs).extract 0 t).size = t := by rw [ByteArray.size_extract]; omega
  have hpad := pad_none ((pre ++ enc rs).extract 0 t) pre.size (by omega)
  obtain ⟨k, k1, k2, k3, k4⟩ := recs_behind pre rs t (t + 1) hr (by omega) (by omega)
  rw [hpad, hz] at k2
  have hs : (Lg.read first n start S).start = start := rfl
  have eo : openRecs (Lg.read first n start S) = rs.take k := by
    show recsFrom ((padTo (Lg.read first n start S).data ((Lg.read first n start S).start % 54)).size + 1) (some ((padTo (Lg.read first n start S).data ((Lg.read first n start S).start % 54)).extract ((Lg.read first n start S).start % 54) (padTo (Lg.read first n start S).data ((Lg.read first n start S).start % 54)).size)) = _
    rw [hs, t3, ← hp, hpad, hz]
    exact k2
  refine ⟨k, k4 f hf t2, k1, eo, ?_⟩
  show (padTo (Lg.read first n start S).data ((Lg.read first n start S).start % 54)).extract 0 ((Lg.read first n start S).start + total (openRecs (Lg.read first n start S)) - flr (Lg.read first n start S).start) = _
  have hfl : start - flr start = start % 54 ∧ flr start ≤ start := by unfold flr; omega
  rw [eo, hs, t3, ← hp, hpad, show start + total (rs.take k) - flr start = pre.size + total (rs.take k) by omega, ext_ext _ _ _ _ (by omega), ext_long _ _ _ (by omega), Nat.add_sub_cancel_left, enc_take]
theorem at_place (L : Lg) (i : Nat) (hi : i < L.n) : (L.start / 54 + (i + L.n - L.start / 54 % L.n) % L.n) % L.n = i := by
  generalize L.start / 54 = k
  have h1 : k % L.n < L.n := Nat.mod_lt _ (by omega)
  have h2 := Nat.div_add_mod k L.n
  rw [Nat.add_mod_mod, show k + (i + L.n - k % L.n) = i + L.n * (k / L.n + 1) by rw [Nat.mul_add, Nat.mul_one]; omega, Nat.add_mul_mod_self_left, Nat.mod_eq_of_lt hi]
theorem want_rg {L : Lg} (h : L.ok) (i : Nat) (hi : i < L.n) : Rg L.first L.n (L.start / 54) L.data L.data.size (L.first + i) (L.want i) := by
  have hp := at_place L i hi
  have hlt : (i + L.n - L.start / 54 % L.n) % L.n < L.n := Nat.mod_lt _ (by omega)
  have ea : L.at_ i = L.start / 54 + (i + L.n - L.start / 54 % L.n) % L.n := rfl
  have a1 := h.sf; have a2 := h.fe; have a4 := h.sz
  rw [flr_mul] at a4
  unfold Lg.want
  rw [ea]
  generalize (i + L.n - L.start / 54 % L.n) % L.n = k at *
  split
  · have := sec_rg h k hlt (by omega)
    rw [hp] at this
    exact this
  · refine rg_zs fun j hj he => ?_
    have : j = k := mod_inj (L.start / 54) j k L.n hj hlt (by omega)
    subst this
    omega
/-- Open's wipe: what was firm stays so; made whole, the ring holds just what was found. -/
theorem wipe_rg {L : Lg} {S : Dsk} {T : ByteArray} {F t : Nat} (h : L.ok) (a : Dal (Rg L.first L.n (L.start / 54) T F) S) (hT : L.data = T.extract 0 t) (hF : F ≤ L.data.size) :
    Dal (Rg L.first L.n (L.start / 54) T F) (L.wipeFrom L.n 0 S).1 ∧ ((L.wipeFrom L.n 0 S).2 = 0 → Dal (Rg L.first L.n (L.start / 54) L.data L.data.size) (L.wipeFrom L.n 0 S).1) := by
  have w : ∀ j, 0 ≤ j → j < 0 + L.n → Rg L.first L.n (L.start / 54) L.data L.data.size (L.first + j) (L.want j) := fun j _ hj => want_rg h j (by omega)
  have w' : ∀ j, 0 ≤ j → j < 0 + L.n → Rg L.first L.n (L.start / 54) T F (L.first + j) (L.want j) := fun j h0 hj => by
    have := w j h0 hj
    rw [hT] at this hF
    exact rg_pre this hF
  refine ⟨L.wipe_al L.n 0 S a w', fun h0 => L.wipe_now L.n 0 S a w' w (fun j hj => ?_) h0⟩
  by_cases hx : L.first ≤ j ∧ j < L.first + L.n
  · exact .inr ⟨by omega, by omega⟩
  · refine .inl fun i hi he => ?_
    have : (L.start / 54 + i) % L.n < L.n := Nat.mod_lt _ (by omega)
    omega
/-- A ring that was created. -/
theorem start_rg (N first n K : Nat) (T : ByteArray) : Dal (Rg first n K T 0) (.start (blanks N)) := Dal.start fun j hj => by
  have e : (blanks N).getD j ⟨#[]⟩ = Fr.zs 64 := by
    have hj' : j < N := by simpa [blanks] using hj
    simp [blanks, List.getD_eq_getElem?_getD, List.getElem?_replicate, hj']
  rw [e]; exact rg_blank
/-- A record more: the ring is as it was. -/
theorem more_rg {first n K F : Nat} {T : ByteArray} {S : Dsk} (a : Dal (Rg first n K T F) S) (x : ByteArray) : Dal (Rg first n K (T ++ x) F) S := a.mono fun j v h => rg_more h x
theorem burn_al {Q : Nat → ByteArray → Prop} {S : Dsk} (a : Dal Q S) (f : Int) (d : Bool) : Dal Q { S with fuel := f, down := d } := ⟨a.firm, a.pend, a.lv⟩
end Go.Proofs.YtgafajbdmegfgaaGreat
namespace Go.Proofs.YtgafajbdmegfgaaGreat
open Go.RowKit

/-- Down, or nothing is pending; never much. -/
structure Qt (N : Nat) (S : Dsk) : Prop where
  len : S.firm.length = N
  up : S.down = true ∨ S.pend = []
  few : S.pend.length ≤ 5000
theorem write_len (S : Dsk) (i : Int) (d : ByteArray) : (S.write i d).1.firm = S.firm := by
  unfold Dsk.write
  split
  · rfl
  split
  · split <;> rfl
  · rfl
theorem barrier_len (S : Dsk) : S.barrier.1.firm.length = S.firm.length := by
  unfold Dsk.barrier
  split
  · rfl
  split
  · rfl
  · exact apply_length _ _
theorem barrier_qt (S : Dsk) : (S.barrier.2 = 0 ∧ S.barrier.1.pend = []) ∨ (S.barrier.1.down = true ∧ S.barrier.1.pend = S.pend ∧ S.barrier.2 ≠ 0) := by
  unfold Dsk.barrier
  by_cases h : S.down = true
  · rw [if_pos h]; exact .inr ⟨h, rfl, (by show (20 : Int) ≠ 0; decide)⟩
  rw [if_neg h]
  by_cases h0 : S.fuel = 0
  · rw [if_pos h0]; exact .inr ⟨rfl, rfl, (by show (20 : Int) ≠ 0; decide)⟩
  · rw [if_neg h0]; exact .inl ⟨rfl, rfl⟩
theorem write_in (S : Dsk) (i : Nat) (d : ByteArray) (hi : i < S.firm.length) (hd : d.size = 64) : ((S.write (i : Int) d).2 = 0 ∧ (S.write (i : Int) d).1.pend.length = S.pend.length + 1 ∧ S.down = false ∧ (S.write (i : Int) d).1.down = false) ∨ ((S.write (i : Int) d).2 ≠ 0 ∧ (S.write (i : Int) d).1.down = true ∧ (S.write (i : Int) d).1.pend = S.pend) := by
  unfold Dsk.write
  by_cases h : S.down = true
  · rw [if_pos h]; exact .inr ⟨(by show (20 : Int) ≠ 0; decide), h, rfl⟩
  have hf : S.down = false := by simpa using h
  rw [if_neg h, if_pos ⟨by omega, by omega, hd⟩]
  by_cases h0 : S.fuel = 0
  · rw [if_pos h0]; exact .inr ⟨(by show (20 : Int) ≠ 0; decide), rfl, rfl⟩
  · rw [if_neg h0]; exact .inl ⟨rfl, by simp [Dsk.wrote], hf, hf⟩
namespace Lg
theorem wr_qt (L : Lg) (hn : 1 ≤ L.n) : ∀ (m k : Nat) (S : Dsk), L.first + L.n ≤ S.firm.length →
    (L.wr m k S).1.firm = S.firm ∧ (((L.wr m k S).2 ≠ 0 ∧ (L.wr m k S).1.down = true) ∨ (L.wr m k S).2 = 0) ∧ (L.wr m k S).1.pend.length ≤ S.pend.length + m ∧ (S.down = true → (L.wr m k S).1 = S)
  | 0, k, S, h => ⟨rfl, .inr rfl, Nat.le_refl _, fun _ => rfl⟩
  | m + 1, k, S, h => by
    have hk : k % L.n < L.n := Nat.mod_lt _ hn
    have hw := write_in S (L.first + k % L.n) (L.sec k) (by omega) (L.sec_size k)
    have hl := write_len S ((L.first + k % L.n : Nat) : Int) (L.sec k)
    simp only [Lg.wr]
    rcases hw with ⟨e, p, d, u⟩ | ⟨e, d, p⟩
    · rw [if_pos e]
      obtain ⟨a, b, c, dd⟩ := wr_qt L hn m (k + 1) _ (by rw [hl]; exact h)
      exact ⟨a.trans hl, b, by omega, fun x => by rw [d] at x; cases x⟩
    · rw [if_neg e]
      exact ⟨hl, .inl ⟨e, d⟩, by rw [p]; omega, fun x => by unfold Dsk.write; rw [if_pos x]⟩
end Lg
theorem flush_qt {N : Nat} {L : Lg} {S : Dsk} (h : L.ok) (q : Qt N S) (hN : L.first + L.n ≤ N) (at_ : Int) : Qt N (L.flush S at_).2.1 ∧ ((L.flush S at_).1.start = L.start ∧ (L.flush S at_).1.first = L.first ∧ (L.flush S at_).1.n = L.n ∧ (L.flush S at_).1.data = L.data ∧ (L.flush S at_).1.fin = L.fin ∧ (L.flush S at_).1.places = L.places) ∧ ((L.flush S at_).2.2 ≠ 0 → (L.flush S at_).1 = L) := by
  have hr : L.rounds ≤ 4098 := by
    have a1 := h.sf; have a2 := h.fe; have a3 := h.rm; have a4 := h.n2
    have := flr_le L.start
    rw [flr_mul] at a3
    have : L.start / 54 ≤ L.firm / 54 := Nat.div_le_div_right a1
    unfold Lg.rounds
    omega
  have n1 := h.n1
  obtain ⟨w1, w2, w3, w4⟩ := L.wr_qt (by omega) L.rounds (L.firm / 54) S (by rw [q.len]; exact hN)
  have wl : (L.wr L.rounds (L.firm / 54) S).1.firm.length = N := by rw [w1]; exact q.len
  have wf : (L.wr L.rounds (L.firm / 54) S).1.pend.length ≤ 5000 := by
    rcases q.up with u | u
    · rw [w4 u]; exact q.few
    · rw [u] at w3; simp only [List.length_nil] at w3; omega
  unfold Lg.flush
  split
  · exact ⟨q, ⟨rfl, rfl, rfl, rfl, rfl, rfl⟩, fun _ => rfl⟩
  split
  · rename_i a
    refine ⟨⟨wl, ?_, wf⟩, ⟨rfl, rfl, rfl, rfl, rfl, rfl⟩, fun _ => rfl⟩
    rcases w2 with w2 | w2
    · exact .inl w2.2
    · exact absurd w2 a
  have bl := barrier_len (L.wr L.rounds (L.firm / 54) S).1
  have bq : Qt N (L.wr L.rounds (L.firm / 54) S).1.barrier.1 := by
    rcases barrier_qt (L.wr L.rounds (L.firm / 54) S).1 with ⟨_, b⟩ | ⟨b, c, _⟩
    · exact ⟨bl.trans wl, .inr b, by rw [b]; exact Nat.zero_le _⟩
    · exact ⟨bl.trans wl, .inl b, by rw [c]; exact wf⟩
  split
  · exact ⟨bq, ⟨rfl, rfl, rfl, rfl, rfl, rfl⟩, fun _ => rfl⟩
  · rename_i a
    exact ⟨bq, ⟨rfl, rfl, rfl, rfl, rfl, rfl⟩, fun b => absurd b a⟩
theorem wipe_qt {N : Nat} (L : Lg) : ∀ (m i : Nat) (S : Dsk), S.firm.length = N → L.first + (i + m) ≤ N → (L.wipeFrom m i S).1.firm.length = N ∧ (L.wipeFrom m i S).1.pend.length ≤ S.pend.length + m
  | 0, i, S, h, hi => ⟨(barrier_len S).trans h, by
    show S.barrier.1.pend.length ≤ _
    rcases barrier_qt S with ⟨_, b⟩ | ⟨_, b, _⟩ <;> rw [b] <;> simp⟩
  | m + 1, i, S, h, hi => by
    have hw := write_in S (L.first + i) (L.want i) (by omega) (want_size L i)
    have hl := write_len S ((L.first + i : Nat) : Int) (L.want i)
    simp only [Lg.wipeFrom]
    split
    · obtain ⟨a, b⟩ := wipe_qt L m (i + 1) S h (by omega)
      exact ⟨a, by omega⟩
    split
    · obtain ⟨a, b⟩ := wipe_qt (N := N) L m (i + 1) (S.write ((L.first + i : Nat) : Int) (L.want i)).1 (by rw [hl]; exact h) (by omega)
      refine ⟨a, ?_⟩
      rcases hw with ⟨_, p, _⟩ | ⟨_, _, p⟩
      · omega
      · rw [p] at b; omega
    · refine ⟨by rw [hl]; exact h, ?_⟩
      rcases hw with ⟨_, p, _⟩ | ⟨_, _, p⟩
      · omega
      · rw [p]; omega
theorem crash_len (S : Dsk) (m : Nat) (kb : Nat → Bool) : (S.crash m kb).firm.length = S.firm.length := keepTo_length _ _ _ _ _
/-- What a wipe with fuel for it tells. -/
theorem wipe_full {N : Nat} (L : Lg) : ∀ (m i : Nat) (S : Dsk), S.firm.length = N → L.first + (i + m) ≤ N → S.down = false → S.fuel = -1 → (L.wipeFrom m i S).2 = 0
  | 0, i, S, h, hi, hd, hf => by
    show S.barrier.2 = 0
    unfold Dsk.barrier
    rw [if_neg (by rw [hd]; simp), if_neg (by omega)]
  | m + 1, i, S, h, hi, hd, hf => by
    have e : S.write ((L.first + i : Nat) : Int) (L.want i) = (S.wrote (L.first + i) (L.want i), 0) := by
      unfold Dsk.write
      rw [if_neg (by rw [hd]; simp), if_pos ⟨by omega, by omega, want_size L i⟩, if_neg (by omega), Int.toNat_natCast]
    simp only [Lg.wipeFrom]
    split
    · exact wipe_full L m (i + 1) S h (by omega) hd hf
    rw [e, if_pos rfl]
    exact wipe_full L m (i + 1) _ (by simpa [Dsk.wrote, Dsk.burnt] using h) (by omega) hd (by show (if 0 < S.fuel then S.fuel - 1 else S.fuel) = -1; rw [if_neg (by omega)]; exact hf)
end Go.Proofs.YtgafajbdmegfgaaGreat
namespace Go.Proofs.YtgafajbdmegfgaaGreat
open Go.RowKit

/-- A log of these records over its device, so many of which were told firm. -/
structure Wp (L : Lg) (S : Dsk) (all : List ByteArray) (f : Nat) : Prop where
  ok : L.ok
  n : L.n = 128
  first : L.first = 0
  start : L.start = 54
  data : L.data = enc all
  qt : Qt 128 S
  rg : Dal (Rg 0 128 1 (enc all) (L.firm - 54)) S
  fle : f ≤ all.length
  tf : total (all.take f) ≤ L.firm - 54
  rs : ∀ r ∈ all, 1 ≤ r.size ∧ r.size < 65536
  bnd : ∃ g, g ≤ all.length ∧ L.firm = 54 + total (all.take g)
  plc : L.places = plcFrom 54 all
namespace Wp
variable {L : Lg} {S : Dsk} {all : List ByteArray} {f : Nat}
theorem flr54 (h : Wp L S all f) : flr L.start = 54 := by rw [h.start]; unfold flr; omega
theorem fin (h : Wp L S all f) : L.fin = 54 + total all := by
  have a := h.ok.sz
  have b := h.ok.sf; have c := h.ok.fe
  rw [h.data, enc_size, h.flr54] at a
  rw [h.start] at b
  omega
theorem most (h : Wp L S all f) : total all ≤ 6912 := by
  have a := h.ok.rm
  rw [h.flr54, h.n, h.fin] at a
  omega
theorem more (h : Wp L S all f) (r : ByteArray) (h1 : 1 ≤ r.size) (h2 : r.size < 65536) (hr : r.size + 2 ≤ L.room) : Wp (L.more r) S (all ++ [r]) f := by
  have hm := h.most
  have hf := h.fin
  have e : enc (all ++ [r]) = enc all ++ (Oct.str r.size 2 ++ r) := by rw [enc_app, enc_one]
  obtain ⟨g, g1, g2⟩ := h.bnd
  refine ⟨Lg.more_ok h.ok r (by omega) hr (by omega), h.n, h.first, h.start, ?_, h.qt, ?_, ?_, ?_, ?_, ⟨g, ?_, ?_⟩, ?_⟩
  · show L.data ++ (Oct.str r.size 2 ++ r) = _
    rw [e, h.data]
  · rw [e]; exact more_rg h.rg _
  · rw [List.length_append]; exact Nat.le_trans h.fle (Nat.le_add_right _ _)
  · rw [List.take_append_of_le_length h.fle]; exact h.tf
  · intro x hx
    rcases List.mem_append.1 hx with hx | hx
    · exact h.rs x hx
    · rw [List.mem_singleton.1 hx]; exact ⟨h1, h2⟩
  · rw [List.length_append]; omega
  · rw [List.take_append_of_le_length g1]; exact g2
  · show L.places ++ [L.fin] = _
    rw [plc_snoc, h.plc, hf]
theorem flushed (h : Wp L S all f) (at_ : Int) (hok : (L.flush S at_).1.ok) :
    Wp (L.flush S at_).1 (L.flush S at_).2.1 all f ∧ ((L.flush S at_).2.2 = 0 → (∀ g, g < all.length → ((54 + total (all.take g) : Nat) : Int) ≤ at_) → Wp (L.flush S at_).1 (L.flush S at_).2.1 all all.length) := by
  obtain ⟨q1, ⟨q2, q3, q4, q5, q6, q7⟩, q8⟩ := flush_qt (N := 128) h.ok h.qt (by rw [h.first, h.n]; omega) at_
  have hf := h.fin
  have hfl := h.flr54
  have hd : L.start / 54 = 1 := by rw [h.start]
  have a0 : Dal (Rg L.first L.n (L.start / 54) L.data (L.firm - flr L.start)) S := by rw [h.first, h.n, hd, h.data, hfl]; exact h.rg
  obtain ⟨g, g1, g2⟩ := h.bnd
  by_cases h0 : (L.flush S at_).2.2 = 0
  · obtain ⟨b1, b2⟩ := flushed_rg h.ok a0 at_ h0
    rw [h.first, h.n, hd, h.data, hfl] at b1
    have hle : L.firm ≤ L.fin := h.ok.fe
    have key : (L.flush S at_).1.firm = L.firm ∨ (L.flush S at_).1.firm = L.fin := by
      by_cases c : at_ < L.firm
      · left
        unfold Lg.flush
        rw [if_pos (.inl c)]
      · exact .inr (b2 c)
    have nb : ∃ g, g ≤ all.length ∧ (L.flush S at_).1.firm = 54 + total (all.take g) := by
      rcases key with k | k
      · exact ⟨g, g1, by rw [k, g2]⟩
      · exact ⟨all.length, Nat.le_refl _, by rw [k, hf, List.take_length]⟩
    have tf := h.tf
    have w : Wp (L.flush S at_).1 (L.flush S at_).2.1 all f := ⟨hok, q4.trans h.n, q3.trans h.first, q2.trans h.start, q5.trans h.data, q1, b1, h.fle, by rcases key with k | k <;> rw [k] <;> omega, h.rs, nb, q7.trans h.plc⟩
    refine ⟨w, fun _ hat => ⟨w.ok, w.n, w.first, w.start, w.data, w.qt, w.rg, Nat.le_refl _, ?_, w.rs, w.bnd, w.plc⟩⟩
    rw [List.take_length]
    have : (L.flush S at_).1.firm = L.fin := by
      by_cases c : at_ < L.firm
      · have hg : ¬ g < all.length := fun hg => by
          have := hat g hg
          omega
        have : g = all.length := by omega
        subst this
        rw [List.take_length] at g2
        rcases key with k | k
        · rw [k, g2, hf]
        · exact k
      · exact b2 c
    omega
  · have e := q8 h0
    have hF : L.firm - flr L.start ≤ L.data.size := by have := h.ok.sz; have := h.ok.fe; omega
    have b := flush_rg h.ok a0 hF at_
    rw [h.first, h.n, hd, h.data, hfl] at b
    refine ⟨?_, fun x => absurd x h0⟩
    rw [e] at hok ⊢
    exact ⟨hok, h.n, h.first, h.start, h.data, q1, b, h.fle, h.tf, h.rs, h.bnd, h.plc⟩
end Wp
/-- The empty log. -/
theorem wp_new (fu : Int) : Wp (Lg.new 0 128) { Dsk.start (blanks 128) with fuel := fu } [] 0 where
  ok := Lg.new_ok 0 128 (by omega) (by omega) (by omega)
  n := rfl
  first := rfl
  start := rfl
  data := rfl
  qt := ⟨by simp [Dsk.start, blanks], .inr rfl, Nat.zero_le _⟩
  rg := burn_al (start_rg 128 0 128 1 (enc [])) fu false
  fle := Nat.le_refl _
  tf := Nat.zero_le _
  rs := fun r hr => by cases hr
  bnd := ⟨0, Nat.le_refl _, rfl⟩
  plc := rfl
end Go.Proofs.YtgafajbdmegfgaaGreat
namespace Go.Proofs.YtgafajbdmegfgaaGreat
open Go.RowKit

theorem nil_app (x : ByteArray) : (⟨#[]⟩ : ByteArray) ++ x = x := by apply ByteArray.ext; simp
/-- The log that is opened at its first record. -/
theorem open_first {S : Dsk} {all : List ByteArray} {f : Nat} (hl : S.firm.length = 128) (hr : ∀ r ∈ all, 1 ≤ r.size ∧ r.size < 65536) (hf : f ≤ all.length) (hm : total all ≤ 6912) (a : Dal (Rg 0 128 1 (enc all) (total (all.take f))) S) :
    ∃ k, f ≤ k ∧ k ≤ all.length ∧ openRecs (Lg.read 0 128 54 S) = all.take k ∧ (opened (Lg.read 0 128 54 S)).data = enc (all.take k) ∧ (opened (Lg.read 0 128 54 S)).ok := by
  have z : (⟨#[]⟩ : ByteArray).size = 0 := rfl
  have ht := total_take all f
  obtain ⟨k, k1, k2, k3, k4⟩ := open_rg (first := 0) (n := 128) (start := 54) (pre := ⟨#[]⟩) (rs := all) (f := f) (by rw [z]) hr hf (by rw [nil_app, z, Nat.zero_add]; exact a) (by omega) (by omega) (by omega) (by rw [z]; omega)
  rw [nil_app] at k4
  refine ⟨k, k1, k2, k3, k4, opened_ok (by show 128 ≤ 128; omega) (by show 128 ≤ 4096; omega) (by show 0 ≤ 16384; omega) (by show 54 ≤ 54; omega) (by show 54 ≤ 1152921504606; omega) ?_⟩
  have := ld_size ((Lg.bare 0 128 54).get S) (54 / 54) 128 0 ⟨#[]⟩
  show (ldFrom ((Lg.bare 0 128 54).get S) (54 / 54) 128 0 ⟨#[]⟩).size ≤ 54 * 128
  omega
theorem wp_open {L : Lg} {S : Dsk} {all : List ByteArray} {f : Nat} (h : Wp L S all f) (m : Nat) (kb : Nat → Bool) (fu : Int) (C : Dsk) (hC : C = { S.crash m kb with fuel := fu }) :
    ∃ k, f ≤ k ∧ k ≤ all.length ∧ openRecs (Lg.read 0 128 54 C) = all.take k ∧ (opened (Lg.read 0 128 54 C)).ok ∧
      ((opened (Lg.read 0 128 54 C)).wipeFrom 128 0 C).1.firm.length = 128 ∧ ((opened (Lg.read 0 128 54 C)).wipeFrom 128 0 C).1.pend.length ≤ 128 ∧
      ∀ m2 kb2 D, D = ((opened (Lg.read 0 128 54 C)).wipeFrom 128 0 C).1.crash m2 kb2 → ∃ k2, f ≤ k2 ∧ k2 ≤ all.length ∧ openRecs (Lg.read 0 128 54 D) = all.take k2 ∧ (((opened (Lg.read 0 128 54 C)).wipeFrom 128 0 C).2 = 0 → k2 = k) ∧ ((opened (Lg.read 0 128 54 D)).wipeFrom 128 0 D).2 = 0 := by
  have hm := h.most
  have hcl : C.firm.length = 128 := by rw [hC]; show (S.crash m kb).firm.length = 128; rw [crash_len]; exact h.qt.len
  have aS : Dal (Rg 0 128 1 (enc all) (total (all.take f))) C := by
    rw [hC]
    exact burn_al ((h.rg.mono fun j v q => rg_less q h.tf).crash m kb) fu _
  obtain ⟨k, k1, k2, k3, k4, k5⟩ := open_first hcl h.rs h.fle hm aS
  have hq := wipe_qt (N := 128) (opened (Lg.read 0 128 54 C)) 128 0 C hcl (by show 0 + (0 + 128) ≤ 128; omega)
  have hpd : C.pend.length = 0 := by rw [hC]; rfl
  have hd : (opened (Lg.read 0 128 54 C)).data = (enc all).extract 0 (total (all.take k)) := by rw [k4, enc_take]
  have hF : total (all.take f) ≤ (opened (Lg.read 0 128 54 C)).data.size := by
    rw [k4, enc_size]
    have := total_take (all.take k) f
    rw [List.take_take, Nat.min_eq_left k1] at this
    exact this
  have eN : (opened (Lg.read 0 128 54 C)).n = 128 := rfl
  have e1 : (opened (Lg.read 0 128 54 C)).first = 0 := rfl
  have e2 : (opened (Lg.read 0 128 54 C)).start = 54 := rfl
  have e3 : (opened (Lg.read 0 128 54 C)).start / 54 = 1 := by rw [e2]
  obtain ⟨w1, w2⟩ := wipe_rg (F := total (all.take f)) (T := enc all) (S := C) k5 (by rw [e1, eN, e3]; exact aS) hd hF
  rw [eN, e1, e3] at w1 w2
  refine ⟨k, k1, k2, k3, k5, hq.1, by have := hq.2; omega, fun m2 kb2 D hD => ?_⟩
  have hdl : D.firm.length = 128 := by rw [hD, crash_len]; exact hq.1
  have hful : ((opened (Lg.read 0 128 54 D)).wipeFrom 128 0 D).2 = 0 := wipe_full (N := 128) _ 128 0 D hdl (by show 0 + (0 + 128) ≤ 128; omega) (by rw [hD]; rfl) (by rw [hD]; rfl)
  by_cases h0 : ((opened (Lg.read 0 128 54 C)).wipeFrom 128 0 C).2 = 0
  · have aD : Dal (Rg 0 128 1 (enc (all.take k)) (total ((all.take k).take k))) D := by
      have := (w2 h0).crash m2 kb2
      rw [← hD, k4, enc_size] at this
      rw [List.take_take, Nat.min_self]
      exact this
    have hlk : (all.take k).length = k := by rw [List.length_take]; omega
    obtain ⟨j, j1, j2, j3, j4, j5⟩ := open_first hdl (fun r hr => h.rs r (List.mem_of_mem_take hr)) (by omega) (Nat.le_trans (total_take all k) hm) aD
    rw [hlk] at j2
    have : j = k := by omega
    subst this
    rw [List.take_take, Nat.min_self] at j3
    exact ⟨j, k1, k2, j3, fun _ => rfl, hful⟩
  · have aD : Dal (Rg 0 128 1 (enc all) (total (all.take f))) D := by rw [hD]; exact w1.crash m2 kb2
    obtain ⟨j, j1, j2, j3, j4, j5⟩ := open_first hdl h.rs h.fle hm aD
    exact ⟨j, j1, j2, j3, fun x => absurd x h0, hful⟩
end Go.Proofs.YtgafajbdmegfgaaGreat
namespace Go.Proofs.YtgafajbdmegfgaaGreat
open Go.RowKit

/-- Up, and fuel without end. -/
def Run (S : Dsk) : Prop := S.down = false ∧ S.fuel = -1
theorem burnt_run {S : Dsk} (h : S.fuel = -1) : (if 0 < S.fuel then S.fuel - 1 else S.fuel) = -1 := by rw [if_neg (by omega)]; exact h
theorem write_run {S : Dsk} (h : Run S) (i : Nat) (d : ByteArray) (hi : i < S.firm.length) (hd : d.size = 64) : (S.write (i : Int) d).2 = 0 ∧ Run (S.write (i : Int) d).1 := by
  have e : S.write (i : Int) d = (S.wrote i d, 0) := by
    unfold Dsk.write
    rw [if_neg (by rw [h.1]; simp), if_pos ⟨by omega, by omega, hd⟩, if_neg (by have := h.2; omega), Int.toNat_natCast]
  rw [e]
  exact ⟨rfl, h.1, burnt_run h.2⟩
theorem barrier_run {S : Dsk} (h : Run S) : S.barrier.2 = 0 ∧ Run S.barrier.1 ∧ S.barrier.1.pend = [] := by
  unfold Dsk.barrier
  rw [if_neg (by rw [h.1]; simp), if_neg (by have := h.2; omega)]
  exact ⟨rfl, ⟨h.1, burnt_run h.2⟩, rfl⟩
theorem wr_run (L : Lg) (hn : 1 ≤ L.n) : ∀ (m k : Nat) (S : Dsk), L.first + L.n ≤ S.firm.length → Run S → (L.wr m k S).2 = 0 ∧ Run (L.wr m k S).1
  | 0, k, S, _, h => ⟨rfl, h⟩
  | m + 1, k, S, hl, h => by
    have hk : k % L.n < L.n := Nat.mod_lt _ hn
    obtain ⟨a, b⟩ := write_run h (L.first + k % L.n) (L.sec k) (by omega) (L.sec_size k)
    simp only [Lg.wr]
    rw [if_pos a]
    exact wr_run L hn m (k + 1) _ (by rw [write_len]; exact hl) b
theorem flush_run {L : Lg} {S : Dsk} (h : L.ok) (hl : L.first + L.n ≤ S.firm.length) (r : Run S) (at_ : Int) : (L.flush S at_).2.2 = 0 ∧ Run (L.flush S at_).2.1 := by
  have n1 := h.n1
  obtain ⟨w1, w2⟩ := wr_run L (by omega) L.rounds (L.firm / 54) S hl r
  obtain ⟨b1, b2, _⟩ := barrier_run w2
  unfold Lg.flush
  split
  · exact ⟨rfl, r⟩
  rw [if_neg (not_not_intro w1), if_neg (not_not_intro b1)]
  exact ⟨b1, b2⟩
theorem wipe_run {N : Nat} (L : Lg) : ∀ (m i : Nat) (S : Dsk), S.firm.length = N → L.first + (i + m) ≤ N → Run S → (L.wipeFrom m i S).2 = 0 ∧ Run (L.wipeFrom m i S).1 ∧ (L.wipeFrom m i S).1.pend = []
  | 0, i, S, h, hi, r => barrier_run r
  | m + 1, i, S, h, hi, r => by
    obtain ⟨a, b⟩ := write_run r (L.first + i) (L.want i) (by omega) (want_size L i)
    simp only [Lg.wipeFrom]
    split
    · exact wipe_run L m (i + 1) S h (by omega) r
    exact wipe_run (N := N) L m (i + 1) _ (by rw [write_len]; exact h) (by omega) b
theorem crash_run (S : Dsk) (m : Nat) (kb : Nat → Bool) : Run (S.crash m kb) := ⟨rfl, rfl⟩

/-- The sectors of the ring bear no number of a sector behind place M. -/
def Bd (first n M : Nat) (j : Nat) (v : ByteArray) : Prop := first ≤ j → j < first + n → 54 * secId v ≤ M + 53
theorem bd_more {first n M M' j : Nat} {v : ByteArray} (h : Bd first n M j v) (hm : M ≤ M') : Bd first n M' j v := fun a b => Nat.le_trans (h a b) (by omega)
theorem id_secOf (k : Nat) (p : ByteArray) (hk : k + 1 < 18446744073709551616) : secId (secOf k p) = k + 1 := by
  unfold secId secOf
  rw [ByteArray.append_assoc, ByteArray.append_assoc]
  have a : Oct.rnum (some (Oct.str (k + 1) 8 ++ (Oct.str p.size 2 ++ (p ++ Fr.zs (54 - p.size))))) 8 = _ := rnum_app (Oct.str (k + 1) 8) _ 8 (Oct.str_size _ _) (by omega) (by omega)
  rw [a]
  show Oct.sval (Oct.str (k + 1) 8) = _
  rw [Oct.sval_str _ _ (by omega)]
theorem bd_zs (first n M j : Nat) : Bd first n M j (Fr.zs 64) := fun _ _ => by rw [blank_id]; omega
theorem bd_sec {L : Lg} (h : L.ok) (k : Nat) (hk : k * 54 < L.fin) (j : Nat) : Bd L.first L.n L.fin j (L.sec k) := fun _ _ => by
  have := h.big
  rw [sec_secOf, id_secOf _ _ (by omega)]
  omega
theorem flush_bd {L : Lg} {S : Dsk} (h : L.ok) (a : Dal (Bd L.first L.n L.fin) S) (at_ : Int) : Dal (Bd L.first L.n L.fin) (L.flush S at_).2.1 := by
  have w := L.wr_al L.rounds (L.firm / 54) S a fun k h1 h2 => bd_sec h k (by
    unfold Lg.rounds at h2
    omega) _
  unfold Lg.flush
  split
  · exact a
  split
  · exact w
  split
  · exact w.barrier
  · exact w.barrier
theorem want_bd {L : Lg} (h : L.ok) (i j : Nat) : Bd L.first L.n L.fin j (L.want i) := by
  unfold Lg.want
  split
  · rename_i c
    exact bd_sec h _ c j
  · exact bd_zs _ _ _ _
theorem wipe_bd {L : Lg} {S : Dsk} (h : L.ok) {Q : Nat → ByteArray → Prop} (q : Dal Q S) (hq : ∀ j v, Bd L.first L.n L.fin j v → Q j v) : Dal Q (L.wipeFrom L.n 0 S).1 ∧ ((L.wipeFrom L.n 0 S).2 = 0 → Dal (Bd L.first L.n L.fin) (L.wipeFrom L.n 0 S).1) := by
  have w : ∀ j, 0 ≤ j → j < 0 + L.n → Bd L.first L.n L.fin (L.first + j) (L.want j) := fun j _ hj => want_bd h j _
  have w' : ∀ j, 0 ≤ j → j < 0 + L.n → Q (L.first + j) (L.want j) := fun j h0 hj => hq _ _ (w j h0 hj)
  refine ⟨L.wipe_al L.n 0 S q w', fun h0 => L.wipe_now L.n 0 S q w' w (fun j hj => ?_) h0⟩
  by_cases hx : L.first ≤ j ∧ j < L.first + L.n
  · exact .inr ⟨by omega, by omega⟩
  · exact .inl fun a b => absurd ⟨a, b⟩ hx
theorem start_bd (N first n M : Nat) : Dal (Bd first n M) (.start (blanks N)) := Dal.start fun j hj => by
  have e : (blanks N).getD j ⟨#[]⟩ = Fr.zs 64 := by
    have hj' : j < N := by simpa [blanks] using hj
    simp [blanks, List.getD_eq_getElem?_getD, List.getElem?_replicate, hj']
  rw [e]; exact bd_zs _ _ _ _

/-- The stream from a later sector on. -/
theorem rg_cut {first n K F d j : Nat} {T : ByteArray} {v : ByteArray} (h : Rg first n K T F j v) (b : Bd first n (54 * K + T.size) j v) (hF : F ≤ T.size) (hn : T.size ≤ 54 * n) (hd : 54 * d ≤ T.size) :
    Rg first n (K + d) (T.extract (54 * d) T.size) (F - 54 * d) j v := fun i hi hj => by
  have hz : (T.extract (54 * d) T.size).size = T.size - 54 * d := by rw [ByteArray.size_extract]; omega
  have hm : (K + d + i) % n < n := Nat.mod_lt _ (by omega)
  by_cases hlt : d + i < n
  · rcases h (d + i) hlt (by rw [hj, Nat.add_assoc]) with ⟨a, c⟩ | ⟨c, c1, c2, c3, c4⟩
    · exact .inl ⟨by omega, by rw [Nat.add_assoc K d i]; exact c⟩
    · refine .inr ⟨c, c1, by omega, by rw [hz]; omega, ?_⟩
      rw [c4, ByteArray.extract_extract, Nat.add_assoc K d i]
      congr 2 <;> omega
  · refine .inl ⟨by omega, fun e => ?_⟩
    have := b (by omega) (by omega)
    omega
end Go.Proofs.YtgafajbdmegfgaaGreat
namespace Go.Proofs.YtgafajbdmegfgaaGreat
open Go.RowKit

theorem opened_fin (L : Lg) : (opened L).fin = L.start + total (openRecs L) := rfl
theorem opened_firm (L : Lg) : (opened L).firm = L.start + total (openRecs L) := rfl
theorem opened_plc (L : Lg) : (opened L).places = plcFrom L.start (openRecs L) := by
  have eo : opened L = { L with fin := L.start + total (openRecs L), firm := L.start + total (openRecs L), data := (padTo L.data (L.start % 54)).extract 0 (L.start + total (openRecs L) - flr L.start), places := plcFrom L.start (openRecs L) } := rfl
  rw [eo]
structure Wq (N first n start : Nat) (pre : ByteArray) (L : Lg) (S : Dsk) (all : List ByteArray) (f : Nat) : Prop where
  ok : L.ok
  nn : L.n = n
  nf : L.first = first
  ns : L.start = start
  pz : pre.size = start % 54
  data : L.data = pre ++ enc all
  qt : Qt N S
  hN : first + n ≤ N
  rg : Dal (Rg first n (start / 54) (pre ++ enc all) (L.firm - flr start)) S
  bd : Dal (Bd first n L.fin) S
  fle : f ≤ all.length
  tf : pre.size + total (all.take f) ≤ L.firm - flr start
  rs : ∀ r ∈ all, 1 ≤ r.size ∧ r.size < 65536
  bnd : ∃ g, g ≤ all.length ∧ L.firm = start + total (all.take g)
  plc : L.places = plcFrom start all
namespace Wq
variable {N first n start : Nat} {pre : ByteArray} {L : Lg} {S : Dsk} {all : List ByteArray} {f : Nat}
theorem flr_ (start : Nat) : flr start = start / 54 * 54 ∧ start = start / 54 * 54 + start % 54 := ⟨flr_mul _, by omega⟩
theorem fin (h : Wq N first n start pre L S all f) : L.fin = start + total all := by
  have a := h.ok.sz
  have b := h.ok.sf; have c := h.ok.fe
  have d := flr_ start
  rw [h.data, ByteArray.size_append, enc_size, h.pz, h.ns] at a
  rw [h.ns] at b
  omega
theorem most (h : Wq N first n start pre L S all f) : start % 54 + total all ≤ 54 * n := by
  have a := h.ok.rm
  have d := flr_ start
  rw [h.ns, h.nn, h.fin] at a
  omega
theorem tz (h : Wq N first n start pre L S all f) : (pre ++ enc all).size = start % 54 + total all := by rw [ByteArray.size_append, enc_size, h.pz]
theorem more (h : Wq N first n start pre L S all f) (r : ByteArray) (h1 : 1 ≤ r.size) (h2 : r.size < 65536) (hr : r.size + 2 ≤ L.room) (hb : L.fin ≤ 1152921504606000000) : Wq N first n start pre (L.more r) S (all ++ [r]) f := by
  have hf := h.fin
  have e : pre ++ enc (all ++ [r]) = (pre ++ enc all) ++ (Oct.str r.size 2 ++ r) := by rw [enc_app, enc_one, ByteArray.append_assoc]
  obtain ⟨g, g1, g2⟩ := h.bnd
  refine ⟨Lg.more_ok h.ok r (by omega) hr (by omega), h.nn, h.nf, h.ns, h.pz, ?_, h.qt, h.hN, ?_, h.bd.mono fun j v b => bd_more b (Nat.le_add_right _ _), ?_, ?_, ?_, ⟨g, ?_, ?_⟩, ?_⟩
  · show L.data ++ (Oct.str r.size 2 ++ r) = _
    rw [e, h.data]
  · rw [e]; exact more_rg h.rg _
  · rw [List.length_append]; exact Nat.le_trans h.fle (Nat.le_add_right _ _)
  · rw [List.take_append_of_le_length h.fle]; exact h.tf
  · intro x hx
    rcases List.mem_append.1 hx with hx | hx
    · exact h.rs x hx
    · rw [List.mem_singleton.1 hx]; exact ⟨h1, h2⟩
  · rw [List.length_append]; omega
  · rw [List.take_append_of_le_length g1]; exact g2
  · show L.places ++ [L.fin] = _
    rw [plc_snoc, h.plc, hf]
theorem flushed (h : Wq N first n start pre L S all f) (at_ : Int) (hok : (L.flush S at_).1.ok) :
    Wq N first n start pre (L.flush S at_).1 (L.flush S at_).2.1 all f ∧ ((L.flush S at_).2.2 = 0 → (∀ g, g < all.length → ((start + total (all.take g) : Nat) : Int) ≤ at_) → Wq N first n start pre (L.flush S at_).1 (L.flush S at_).2.1 all all.length ∧ (L.flush S at_).1.firm = L.fin) := by
  obtain ⟨q1, ⟨q2, q3, q4, q5, q6, q7⟩, q8⟩ := flush_qt (N := N) h.ok h.qt (by rw [h.nf, h.nn]; exact h.hN) at_
  have hf := h.fin
  have d := flr_ start
  have hs := h.ns
  have a0 : Dal (Rg L.first L.n (L.start / 54) L.data (L.firm - flr L.start)) S := by rw [h.nf, h.nn, hs, h.data]; exact h.rg
  have b0 : Dal (Bd L.first L.n L.fin) (L.flush S at_).2.1 := flush_bd h.ok (by rw [h.nf, h.nn]; exact h.bd) at_
  have b1 : Dal (Bd first n (L.flush S at_).1.fin) (L.flush S at_).2.1 := by rw [q6, ← h.nf, ← h.nn]; exact b0
  obtain ⟨g, g1, g2⟩ := h.bnd
  have hle : L.firm ≤ L.fin := h.ok.fe
  have sf : L.start ≤ L.firm := h.ok.sf
  by_cases h0 : (L.flush S at_).2.2 = 0
  · obtain ⟨c1, c2⟩ := flushed_rg h.ok a0 at_ h0
    rw [h.nf, h.nn, hs, h.data] at c1
    have key : (L.flush S at_).1.firm = L.firm ∨ (L.flush S at_).1.firm = L.fin := by
      by_cases c : at_ < L.firm
      · left
        unfold Lg.flush
        rw [if_pos (.inl c)]
      · exact .inr (c2 c)
    have nb : ∃ g, g ≤ all.length ∧ (L.flush S at_).1.firm = start + total (all.take g) := by
      rcases key with k | k
      · exact ⟨g, g1, by rw [k, g2]⟩
      · exact ⟨all.length, Nat.le_refl _, by rw [k, hf, List.take_length]⟩
    have tf := h.tf
    have w : Wq N first n start pre (L.flush S at_).1 (L.flush S at_).2.1 all f := ⟨hok, q4.trans h.nn, q3.trans h.nf, q2.trans h.ns, h.pz, q5.trans h.data, q1, h.hN, c1, b1, h.fle, by rcases key with k | k <;> rw [k] <;> omega, h.rs, nb, q7.trans h.plc⟩
    refine ⟨w, fun _ hat => ?_⟩
    have ef : (L.flush S at_).1.firm = L.fin := by
      by_cases c : at_ < L.firm
      · have hg : ¬ g < all.length := fun hg => by
          have := hat g hg
          omega
        have : g = all.length := by omega
        subst this
        rw [List.take_length] at g2
        rcases key with k | k
        · rw [k, g2, hf]
        · exact k
      · exact c2 c
    refine ⟨⟨w.ok, w.nn, w.nf, w.ns, w.pz, w.data, w.qt, w.hN, w.rg, w.bd, Nat.le_refl _, ?_, w.rs, w.bnd, w.plc⟩, ef⟩
    rw [List.take_length, ef, hf]
    have := h.pz
    omega
  · have e := q8 h0
    have hF : L.firm - flr L.start ≤ L.data.size := by have := h.ok.sz; omega
    have b := flush_rg h.ok a0 hF at_
    rw [h.nf, h.nn, hs, h.data] at b
    refine ⟨?_, fun x => absurd x h0⟩
    rw [e] at hok b1 ⊢
    exact ⟨hok, h.nn, h.nf, h.ns, h.pz, h.data, q1, h.hN, b, b1, h.fle, h.tf, h.rs, h.bnd, h.plc⟩
/-- A flush of all that there is. -/
theorem flush_all (h : Wq N first n start pre L S all f) (at_ : Int) (hok : (L.flush S at_).1.ok) (ha : (L.fin : Int) ≤ at_) (h0 : (L.flush S at_).2.2 = 0) : Wq N first n start pre (L.flush S at_).1 (L.flush S at_).2.1 all all.length ∧ (L.flush S at_).1.firm = L.fin :=
  (h.flushed at_ hok).2 h0 fun g hg => by
    have := h.fin; have := total_take all g
    omega
/-- Behind a crash. -/
theorem crashed (h : Wq N first n start pre L S all f) (h1 : 54 ≤ start) (h2 : start ≤ 1099511627776) (m : Nat) (kb : Nat → Bool) (fu : Int) (C : Dsk) (hC : C = { S.crash m kb with fuel := fu }) :
    ∃ k, f ≤ k ∧ k ≤ all.length ∧ openRecs (Lg.read first n start C) = all.take k ∧ (opened (Lg.read first n start C)).ok ∧ C.firm.length = N ∧ C.pend = [] ∧ C.down = false ∧
      ((opened (Lg.read first n start C)).wipeFrom n 0 C).1.firm.length = N ∧ ((opened (Lg.read first n start C)).wipeFrom n 0 C).1.pend.length ≤ n ∧
      (fu = -1 → ((opened (Lg.read first n start C)).wipeFrom n 0 C).2 = 0 ∧ Run ((opened (Lg.read first n start C)).wipeFrom n 0 C).1 ∧ Wq N first n start pre (opened (Lg.read first n start C)) ((opened (Lg.read first n start C)).wipeFrom n 0 C).1 (all.take k) k) := by
  have hm := h.most
  have n1 : 128 ≤ n := by rw [← h.nn]; exact h.ok.n1
  have n2 : n ≤ 4096 := by rw [← h.nn]; exact h.ok.n2
  have f1 : first ≤ 16384 := by rw [← h.nf]; exact h.ok.f1
  have ht := total_take all f
  have hcl : C.firm.length = N := by rw [hC]; show (S.crash m kb).firm.length = N; rw [crash_len]; exact h.qt.len
  have hN := h.hN
  have aS : Dal (Rg first n (start / 54) (pre ++ enc all) (pre.size + total (all.take f))) C := by
    rw [hC]
    exact burn_al ((h.rg.mono fun j v q => rg_less q h.tf).crash m kb) fu _
  obtain ⟨k, k1, k2, k3, k4⟩ := open_rg (first := first) (n := n) (start := start) (pre := pre) (rs := all) (f := f) h.pz h.rs h.fle aS (by omega) (by omega) (by omega) (by have := h.pz; omega)
  have k5 : (opened (Lg.read first n start C)).ok := opened_ok (by show 128 ≤ n; omega) (by show n ≤ 4096; omega) (by show first ≤ 16384; omega) (by show 54 ≤ start; omega) (by show start ≤ 1152921504606; omega) (by
    have := ld_size ((Lg.bare first n start).get C) (start / 54) n 0 ⟨#[]⟩
    show (ldFrom ((Lg.bare first n start).get C) (start / 54) n 0 ⟨#[]⟩).size ≤ 54 * n
    have z : (⟨#[]⟩ : ByteArray).size = 0 := rfl
    omega)
  have hq := wipe_qt (N := N) (opened (Lg.read first n start C)) n 0 C hcl (by show first + (0 + n) ≤ N; omega)
  have hpd : C.pend = [] := by rw [hC]; rfl
  refine ⟨k, k1, k2, k3, k5, hcl, hpd, by rw [hC]; rfl, hq.1, by have := hq.2; rw [hpd] at this; simpa using this, fun hfu => ?_⟩
  have hrun : Run C := by rw [hC]; exact ⟨rfl, hfu⟩
  obtain ⟨w1, w2, w3⟩ := wipe_run (N := N) (opened (Lg.read first n start C)) n 0 C hcl (by show first + (0 + n) ≤ N; omega) hrun
  refine ⟨w1, w2, ?_⟩
  have htk := total_take all k
  have lk : (all.take k).length = k := by rw [List.length_take]; omega
  have eN : (opened (Lg.read first n start C)).n = n := rfl
  have e1 : (opened (Lg.read first n start C)).first = first := rfl
  have e2 : (opened (Lg.read first n start C)).start = start := rfl
  have e6 : (opened (Lg.read first n start C)).fin = start + total (all.take k) := by rw [opened_fin, k3]; rfl
  have e7 : (opened (Lg.read first n start C)).firm = start + total (all.take k) := by rw [opened_firm, k3]; rfl
  have e8 : (opened (Lg.read first n start C)).places = plcFrom start (all.take k) := by rw [opened_plc, k3]; rfl
  have hd : (opened (Lg.read first n start C)).data = (pre ++ enc all).extract 0 (pre.size + total (all.take k)) := by
    rw [k4, ext_long _ _ _ (by omega), Nat.add_sub_cancel_left, enc_take]
  have hF : pre.size + total (all.take f) ≤ (opened (Lg.read first n start C)).data.size := by
    rw [k4, ByteArray.size_append, enc_size]
    have := total_take (all.take k) f
    rw [List.take_take, Nat.min_eq_left k1] at this
    omega
  obtain ⟨r1, r2⟩ := wipe_rg (F := pre.size + total (all.take f)) (T := pre ++ enc all) (S := C) k5 (by rw [e1, eN, e2]; exact aS) hd hF
  have r3 := r2 (by rw [eN]; exact w1)
  rw [e1, eN, e2, k4] at r3
  have bC : Dal (Bd first n L.fin) C := by rw [hC]; exact burn_al (h.bd.crash m kb) fu _
  have hfi : (opened (Lg.read first n start C)).fin ≤ L.fin := by rw [e6, h.fin]; omega
  obtain ⟨x1, x2⟩ := wipe_bd (S := C) k5 (Q := Bd first n L.fin) bC (fun j v b => bd_more (by rw [e1, eN] at b; exact b) hfi)
  have x3 := x2 (by rw [eN]; exact w1)
  rw [eN, e1] at x3
  have hst := h.pz
  have d := flr_ start
  have es : (pre ++ enc (all.take k)).size = pre.size + total (all.take k) := by rw [ByteArray.size_append, enc_size]
  exact { ok := k5, nn := eN, nf := e1, ns := e2, pz := h.pz, data := k4, qt := ⟨hq.1, .inr w3, by rw [w3]; exact Nat.zero_le _⟩, hN := h.hN, rg := (by rw [e7, show start + total (all.take k) - flr start = pre.size + total (all.take k) by omega, ← es]; exact r3), bd := x3, fle := (by omega), tf := (by rw [List.take_take, Nat.min_self, e7]; omega), rs := (fun r hr => h.rs r (List.mem_of_mem_take hr)), bnd := ⟨k, by omega, by rw [List.take_take, Nat.min_self]; exact e7⟩, plc := e8 }
theorem less {g : Nat} (h : Wq N first n start pre L S all f) (hg : g ≤ f) : Wq N first n start pre L S all g :=
  ⟨h.ok, h.nn, h.nf, h.ns, h.pz, h.data, h.qt, h.hN, h.rg, h.bd, Nat.le_trans hg h.fle, by
    have := h.tf
    have := total_take (all.take f) g
    rw [List.take_take, Nat.min_eq_left hg] at this
    omega, h.rs, h.bnd, h.plc⟩
/-- Fuel laid anew. -/
theorem fuel (h : Wq N first n start pre L S all f) (fu : Int) : Wq N first n start pre L { S with fuel := fu } all f :=
  ⟨h.ok, h.nn, h.nf, h.ns, h.pz, h.data, ⟨h.qt.len, h.qt.up, h.qt.few⟩, h.hN, burn_al h.rg fu S.down, burn_al h.bd fu S.down, h.fle, h.tf, h.rs, h.bnd, h.plc⟩
end Wq
/-- The empty log. -/
theorem wq_new (N first n : Nat) (fu : Int) (h1 : 128 ≤ n) (h2 : n ≤ 4096) (h3 : first ≤ 16384) (hN : first + n ≤ N) : Wq N first n 54 ⟨#[]⟩ (Lg.new first n) { Dsk.start (blanks N) with fuel := fu } [] 0 where
  ok := Lg.new_ok first n h1 h2 h3
  nn := rfl
  nf := rfl
  ns := rfl
  pz := rfl
  data := rfl
  qt := ⟨by simp [Dsk.start, blanks], .inr rfl, Nat.zero_le _⟩
  hN := hN
  rg := burn_al (start_rg N first n 1 _) fu false
  bd := burn_al (start_bd N first n 54) fu false
  fle := Nat.le_refl _
  tf := Nat.zero_le _
  rs := fun r hr => by cases hr
  bnd := ⟨0, Nat.le_refl _, rfl⟩
  plc := rfl
end Go.Proofs.YtgafajbdmegfgaaGreat
namespace Go.Proofs.YtgafajbdmegfgaaGreat
open Go.RowKit

theorem count_lt_none {l : List Nat} {x : Nat} (h : ∀ p ∈ l, x ≤ p) : l.countP (· < x) = 0 := by
  rw [List.countP_eq_zero]
  intro p hp
  have := h p hp
  simp; omega
theorem drop_ge : ∀ (l : List Nat) (x : Nat), l.Pairwise (· < ·) → ∀ p ∈ l.drop (l.countP (· < x)), x ≤ p
  | [], x, _, p, hp => by simp at hp
  | a :: l, x, h, p, hp => by
    rw [List.pairwise_cons] at h
    by_cases c : a < x
    · rw [List.countP_cons_of_pos (by simpa using c)] at hp
      exact drop_ge l x h.2 p hp
    · have hall : ∀ p ∈ a :: l, x ≤ p := fun q hq => by
        rcases List.mem_cons.1 hq with rfl | hq
        · omega
        · have := h.1 q hq; omega
      rw [count_lt_none hall] at hp
      exact hall p hp
theorem asc_len : ∀ (l : List Nat) (a b : Nat), l.Pairwise (· < ·) → (∀ p ∈ l, a ≤ p ∧ p < b) → l.length ≤ b - a
  | [], a, b, _, _ => Nat.zero_le _
  | x :: l, a, b, h, hp => by
    rw [List.pairwise_cons] at h
    have h1 := hp x List.mem_cons_self
    have := asc_len l (x + 1) b h.2 fun p q => ⟨h.1 p q, (hp p (List.mem_cons_of_mem _ q)).2⟩
    rw [List.length_cons]
    omega
/-- A slice of a slice, by what it is known to be, ahead of a region's forced tail. -/
theorem still_slice_as {P : Program} {w : World} {ops : Array Oper} {o : Oper} {rest : List Oper} {a : Act} {Q : Act → Prop} (hgd : o.guard = none) (t : TypeId) (x l : Operand) (ho : o.op = .slice t x (some l) none none) (ht : P.underlying t = some (.slice (P.elem t))) (v lv u : Value) (hx : a.eval x = v) (hl : a.eval l = lv)
    (hr : (Instr.slice t v (some lv) none none).run P w = .ok u w) (h : wpStill P ops w Q rest (a.put o.dst u)) : wpStill P ops w Q (o :: rest) a := by
  refine wpStill_step fun K hK => ?_
  have hw : Region.wanted o (yielded ops a.tmps) = true := by simp [Region.wanted, hgd]
  rw [if_pos hw]
  unfold Oper.still execOp
  simp only [ho, Option.map_some, Option.map_none, hx, hl, run_sliceAt_slice w t v _ _ _ ht, hr, Sem.run_bind, Sem.run_pure, Result.andThen_ok]
  exact ⟨rfl, hK _ h⟩
def Lg.cut (L : Lg) (at_ : Nat) : Lg := { L with places := L.places.drop (L.places.countP (· < at_)), data := L.data.extract (flr at_ - flr L.start) L.data.size, start := at_ }
theorem Lg.cut_ok {L : Lg} (h : L.ok) (at_ : Nat) (h1 : L.start ≤ at_) (h2 : at_ ≤ L.firm) : (L.cut at_).ok := by
  have a1 := h.sf; have a2 := h.fe; have a3 := h.rm; have a4 := h.sz; have a5 := h.s0
  have f1 := flr_mono h1
  have f2 := flr_le at_
  have es : (L.data.extract (flr at_ - flr L.start) L.data.size).size = L.fin - flr at_ := by rw [ByteArray.size_extract]; omega
  have ge := drop_ge L.places at_ h.asc
  have asc : (L.places.drop (L.places.countP (· < at_))).Pairwise (· < ·) := h.asc.drop
  have hi : ∀ p ∈ L.places.drop (L.places.countP (· < at_)), at_ ≤ p ∧ p < L.fin := fun p hp => ⟨ge p hp, (h.hi p (List.mem_of_mem_drop hp)).2⟩
  exact { n1 := h.n1, n2 := h.n2, f1 := h.f1, s0 := (by show 54 ≤ at_; omega), sf := h2, fe := h.fe, big := h.big, sz := es, rm := (by show L.fin - flr at_ ≤ 54 * L.n; omega), few := (by
    show (L.places.drop (L.places.countP (· < at_))).length ≤ (L.data.extract (flr at_ - flr L.start) L.data.size).size
    rw [es]
    have := asc_len _ at_ L.fin asc hi
    omega), asc := asc, hi := hi }
theorem strCells_drop (s : ByteArray) (h : Nat) : (Lib.strCells s).drop h = Lib.strCells (s.extract h s.size) := by
  unfold Lib.strCells
  rw [← List.map_drop]
  congr 1
  show _ = (s.extract h s.size).data.toList
  rw [ByteArray.data_extract]
  have : s.data.size = s.size := rfl
  have hl : (s.data.toList.drop h).length ≤ s.size - h := by rw [List.length_drop]; simp [this]
  simp [List.take_of_length_le hl]
end Go.Proofs.YtgafajbdmegfgaaGreat
namespace Go.Proofs.YtgafajbdmegfgaaGreat
open Go.RowKit

theorem plc_drop : ∀ (l : List ByteArray) (a g : Nat), (plcFrom a l).drop g = plcFrom (a + total (l.take g)) (l.drop g)
  | l, a, 0 => by rw [List.take_zero, List.drop_zero, List.drop_zero]; rfl
  | [], a, g + 1 => rfl
  | x :: l, a, g + 1 => by
    show (plcFrom (a + (2 + x.size)) l).drop g = plcFrom (a + total (x :: l.take g)) (l.drop g)
    rw [plc_drop l, total_cons, Nat.add_assoc]
/-- The places ahead of a record's are those of the records ahead of it. -/
theorem plc_count : ∀ (l : List ByteArray) (a g : Nat), g ≤ l.length → (plcFrom a l).countP (· < a + total (l.take g)) = g
  | l, a, 0, _ => count_lt_none fun p hp => by have := plc_ge l a p hp; simp [total]; omega
  | [], a, g + 1, h => by simp at h
  | x :: l, a, g + 1, h => by
    have e : plcFrom a (x :: l) = a :: plcFrom (a + (2 + x.size)) l := rfl
    rw [List.take_succ_cons, total_cons, e, List.countP_cons_of_pos (by simp; omega), ← Nat.add_assoc, plc_count l (a + (2 + x.size)) g (by simpa using h)]
theorem total_drop (l : List ByteArray) (g : Nat) : total (l.take g) + total (l.drop g) = total l := by rw [← total_app, List.take_append_drop]
theorem enc_split (l : List ByteArray) (g : Nat) : enc l = enc (l.take g) ++ enc (l.drop g) := by rw [← enc_app, List.take_append_drop]
theorem ext_back (a b : ByteArray) (k : Nat) (h : k ≤ a.size) : (a ++ b).extract k (a ++ b).size = a.extract k a.size ++ b := by
  apply ByteArray.ext
  apply Array.toList_inj.1
  have ha : a.data.toList.length = a.size := rfl
  have hb : b.data.toList.length = b.size := rfl
  have e1 : (a.data.toList ++ b.data.toList).drop k = a.data.toList.drop k ++ b.data.toList := by
    rw [List.drop_append, show k - a.data.toList.length = 0 by omega, List.drop_zero]
  have l1 : (a.data.toList.drop k ++ b.data.toList).length ≤ a.size + b.size - k := by rw [List.length_append, List.length_drop]; omega
  have l2 : (a.data.toList.drop k).length ≤ a.size - k := by rw [List.length_drop]; omega
  simp only [ByteArray.data_extract, ByteArray.data_append, Array.toList_extract, Array.toList_append, ByteArray.size_append, List.extract_eq_take_drop, e1]
  rw [List.take_of_length_le l1, List.take_of_length_le l2]
theorem take_later (l : List ByteArray) (g k : Nat) (h : g ≤ k) : total (l.take g) + total ((l.drop g).take (k - g)) = total (l.take k) := by
  rw [← total_app]
  congr 1
  rw [← List.take_add, show g + (k - g) = k by omega]
theorem total_mono (l : List ByteArray) (g k : Nat) (h : g ≤ k) : total (l.take g) ≤ total (l.take k) := by have := take_later l g k h; omega
theorem Wq.cut {N first n start : Nat} {pre : ByteArray} {L : Lg} {S : Dsk} {all : List ByteArray} {f : Nat} (h : Wq N first n start pre L S all f) (g : Nat) (hg : g ≤ all.length) (at_ : Nat) (ha : at_ = start + total (all.take g)) (hp : at_ ≤ L.firm) :
    ∃ pre', Wq N first n at_ pre' (L.cut at_) S (all.drop g) (f - g) := by
  have hst := h.ns
  have hpz := h.pz
  have hsf := h.ok.sf; have hfe := h.ok.fe
  have hfin := h.fin
  have hmost := h.most
  have htz := h.tz
  have d1 := Wq.flr_ start
  have d2 := Wq.flr_ at_
  have hts := total_drop all g
  obtain ⟨d, hd⟩ : ∃ d, d = at_ / 54 - start / 54 := ⟨_, rfl⟩
  have hle : start / 54 ≤ at_ / 54 := Nat.div_le_div_right (by omega)
  have e0 : flr at_ - flr L.start = 54 * d := by rw [hst]; omega
  have eT : pre ++ enc all = (pre ++ enc (all.take g)) ++ enc (all.drop g) := by rw [ByteArray.append_assoc, ← enc_split]
  have hz1 : (pre ++ enc (all.take g)).size = start % 54 + total (all.take g) := by rw [ByteArray.size_append, enc_size, hpz]
  have hk : 54 * d ≤ (pre ++ enc (all.take g)).size := by rw [hz1]; omega
  have eX : (pre ++ enc all).extract (54 * d) (pre ++ enc all).size = (pre ++ enc (all.take g)).extract (54 * d) (pre ++ enc (all.take g)).size ++ enc (all.drop g) := by
    rw [eT]; exact ext_back _ _ _ hk
  have hpz' : ((pre ++ enc (all.take g)).extract (54 * d) (pre ++ enc (all.take g)).size).size = at_ % 54 := by rw [ByteArray.size_extract, hz1]; omega
  have hrg : ∀ j v, Rg first n (start / 54) (pre ++ enc all) (L.firm - flr start) j v → Bd first n L.fin j v → Rg first n (at_ / 54) ((pre ++ enc all).extract (54 * d) (pre ++ enc all).size) (L.firm - flr at_) j v := fun j v hr hb => by
    have := rg_cut (d := d) hr (by rw [htz, show 54 * (start / 54) + (start % 54 + total all) = L.fin by omega]; exact hb) (by rw [htz]; omega) (by rw [htz]; omega) (by rw [htz]; omega)
    rw [show start / 54 + d = at_ / 54 by omega, show L.firm - flr start - 54 * d = L.firm - flr at_ by omega] at this
    exact this
  rw [eX] at hrg
  have tf := h.tf
  refine ⟨(pre ++ enc (all.take g)).extract (54 * d) (pre ++ enc (all.take g)).size, ⟨Lg.cut_ok h.ok at_ (by omega) hp, h.nn, h.nf, rfl, hpz', ?_, h.qt, h.hN, ⟨fun j hj => hrg _ _ (h.rg.firm j hj) (h.bd.firm j hj), fun p hp => hrg _ _ (h.rg.pend p hp) (h.bd.pend p hp), h.rg.lv⟩, h.bd, ?_, ?_, fun r hr => h.rs r (List.mem_of_mem_drop hr), ?_, ?_⟩⟩
  · show L.data.extract (flr at_ - flr L.start) L.data.size = _
    rw [e0, h.data, eX]
  · have := h.fle; rw [List.length_drop]; omega
  · rw [hpz']
    show at_ % 54 + total ((all.drop g).take (f - g)) ≤ L.firm - flr at_
    by_cases hfg : g ≤ f
    · have := take_later all g f hfg
      omega
    · rw [Nat.sub_eq_zero_of_le (by omega), List.take_zero]
      show at_ % 54 + 0 ≤ _
      omega
  · obtain ⟨g0, g1, g2⟩ := h.bnd
    show ∃ g', g' ≤ (all.drop g).length ∧ L.firm = at_ + total ((all.drop g).take g')
    by_cases hc : g ≤ g0
    · refine ⟨g0 - g, by rw [List.length_drop]; omega, ?_⟩
      have := take_later all g g0 hc
      omega
    · have := total_mono all g0 g (by omega)
      refine ⟨0, Nat.zero_le _, ?_⟩
      rw [List.take_zero]
      show L.firm = at_ + 0
      omega
  · show L.places.drop (L.places.countP (· < at_)) = _
    rw [h.plc, ha, plc_count all start g hg, plc_drop]
end Go.Proofs.YtgafajbdmegfgaaGreat
