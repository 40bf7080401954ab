/- Of a head of a stream the first records are found: plain. -/
import Derived.Test.YtplcddcdhnjfeaaWalThy
set_option linter.unusedVariables false
set_option linter.unusedSimpArgs false
namespace Go.Proofs.Ytplcddcdhnjfeaa
open Go.RowKit

/-- Records as they stand in the stream. -/
def enc : List ByteArray → ByteArray
  | [] => ⟨#[]⟩
  | r :: l => (Oct.str r.size 2 ++ r) ++ enc l
theorem total_cons (x : ByteArray) (l : List ByteArray) : total (x :: l) = (2 + x.size) + total l := by simp [total]
theorem total_app : ∀ (a b : List ByteArray), total (a ++ b) = total a + total b
  | [], b => by simp [total]
  | x :: a, b => by rw [List.cons_append, total_cons, total_cons, total_app a b]; omega
theorem enc_size : ∀ l, (enc l).size = total l
  | [] => rfl
  | r :: l => by
    show ((Oct.str r.size 2 ++ r) ++ enc l).size = _
    rw [ByteArray.size_append, ByteArray.size_append, Oct.str_size, enc_size l, total_cons]
theorem enc_app : ∀ (a b : List ByteArray), enc (a ++ b) = enc a ++ enc b
  | [], b => by show enc b = (⟨#[]⟩ : ByteArray) ++ enc b; apply ByteArray.ext; simp
  | x :: a, b => by
    show (Oct.str x.size 2 ++ x) ++ enc (a ++ b) = ((Oct.str x.size 2 ++ x) ++ enc a) ++ enc b
    rw [enc_app a b, ByteArray.append_assoc (a := Oct.str x.size 2 ++ x)]
theorem enc_one (r : ByteArray) : enc [r] = Oct.str r.size 2 ++ r := by
  show (Oct.str r.size 2 ++ r) ++ (⟨#[]⟩ : ByteArray) = _
  apply ByteArray.ext; simp
theorem ext_long (a b : ByteArray) (t : Nat) (h : a.size ≤ t) : (a ++ b).extract 0 t = a ++ b.extract 0 (t - a.size) := by
  apply ByteArray.ext
  have : a.data.size = a.size := rfl
  rw [ByteArray.data_extract, ByteArray.data_append, ByteArray.data_append, ByteArray.data_extract, Array.extract_append, this, Nat.zero_sub]
  congr 1
  rw [Array.extract_eq_self_of_le (by omega)]
theorem ext_short (a b : ByteArray) (t : Nat) (h : t ≤ a.size) : (a ++ b).extract 0 t = a.extract 0 t := by
  apply ByteArray.ext
  have : a.data.size = a.size := rfl
  rw [ByteArray.data_extract, ByteArray.data_append, ByteArray.data_extract, Array.extract_append, this, Nat.zero_sub, Nat.sub_eq_zero_of_le h]
  simp
theorem rnum_short (s : ByteArray) (h : s.size < 2) : (Oct.rnum (some s) 2).1 = 0 := by
  have e : Oct.rnum (some s) 2 = (Oct.nval (Oct.rbytes (some s) 2).1, (Oct.rbytes (some s) 2).2) := by
    show (if (2 : Int) < 1 ∨ 8 < (2 : Int) then ((0 : Nat), (none : Oct.Rs)) else (Oct.nval (Oct.rbytes (some s) 2).1, (Oct.rbytes (some s) 2).2)) = _
    rw [if_neg (by omega)]
  have e2 : Oct.rbytes (some s) 2 = (⟨#[]⟩, none) := by
    show (if (2 : Int) < 0 ∨ (s.size : Int) < 2 then ((⟨#[]⟩ : ByteArray), (none : Oct.Rs)) else _) = _
    rw [if_pos (by omega)]
  rw [e, e2]
  rfl
theorem rbytes_short (s : ByteArray) (n : Nat) (h : s.size < n) : (Oct.rbytes (some s) n).2 = none := by
  show (if (n : Int) < 0 ∨ (s.size : Int) < n then ((⟨#[]⟩ : ByteArray), (none : Oct.Rs)) else _).2 = _
  rw [if_pos (by omega)]
theorem recs_step (m : Nat) (r s : ByteArray) (h0 : 1 ≤ r.size) (h1 : r.size < 65536) :
    recsFrom (m + 1) (some ((Oct.str r.size 2 ++ r) ++ s)) = r :: recsFrom m (some s) := by
  have a : Oct.rnum (some (Oct.str r.size 2 ++ (r ++ s))) 2 = _ := rnum_app (Oct.str r.size 2) (r ++ s) 2 (Oct.str_size _ _) (by omega) (by omega)
  rw [Oct.sval_str _ _ (by omega)] at a
  show (if (Oct.rnum (some ((Oct.str r.size 2 ++ r) ++ s)) 2).1 = 0 ∨ (Oct.rbytes (Oct.rnum (some ((Oct.str r.size 2 ++ r) ++ s)) 2).2 (Oct.rnum (some ((Oct.str r.size 2 ++ r) ++ s)) 2).1).2.isNone = true then [] else (Oct.rbytes (Oct.rnum (some ((Oct.str r.size 2 ++ r) ++ s)) 2).2 (Oct.rnum (some ((Oct.str r.size 2 ++ r) ++ s)) 2).1).1 :: recsFrom m (Oct.rbytes (Oct.rnum (some ((Oct.str r.size 2 ++ r) ++ s)) 2).2 (Oct.rnum (some ((Oct.str r.size 2 ++ r) ++ s)) 2).1).2) = _
  rw [ByteArray.append_assoc, a]
  dsimp only
  rw [rbytes_app r s r.size rfl, if_neg]
  rintro (h | h)
  · omega
  · cases h
theorem recs_stop (m : Nat) (r s : ByteArray) (t : Nat) (h1 : r.size < 65536) (ht : t < 2 + r.size) :
    recsFrom (m + 1) (some (((Oct.str r.size 2 ++ r) ++ s).extract 0 t)) = [] := by
  show (if (Oct.rnum (some (((Oct.str r.size 2 ++ r) ++ s).extract 0 t)) 2).1 = 0 ∨ (Oct.rbytes (Oct.rnum (some (((Oct.str r.size 2 ++ r) ++ s).extract 0 t)) 2).2 (Oct.rnum (some (((Oct.str r.size 2 ++ r) ++ s).extract 0 t)) 2).1).2.isNone = true then [] else _) = _
  refine if_pos ?_
  have hs := Oct.str_size r.size 2
  rw [ext_short _ _ _ (by rw [ByteArray.size_append]; omega)]
  by_cases h2 : t < 2
  · exact .inl (rnum_short _ (by rw [ByteArray.size_extract]; omega))
  · rw [ext_long _ _ _ (by omega)]
    have a : Oct.rnum (some (Oct.str r.size 2 ++ r.extract 0 (t - (Oct.str r.size 2).size))) 2 = _ := rnum_app (Oct.str r.size 2) (r.extract 0 (t - (Oct.str r.size 2).size)) 2 hs (by omega) (by omega)
    rw [Oct.sval_str _ _ (by omega)] at a
    rw [a]
    refine .inr ?_
    dsimp only
    rw [rbytes_short _ _ (by rw [ByteArray.size_extract]; omega)]
    rfl
theorem recs_none (m : Nat) (s : ByteArray) (h : s.size < 2) : recsFrom m (some s) = [] := by
  cases m with
  | zero => rfl
  | succ m =>
    show (if (Oct.rnum (some s) 2).1 = 0 ∨ (Oct.rbytes (Oct.rnum (some s) 2).2 (Oct.rnum (some s) 2).1).2.isNone = true then [] else _) = _
    exact if_pos (.inl (rnum_short s h))
/-- Of a head of a stream the first records are found, all that are whole in it. -/
theorem recs_pre : ∀ (rs : List ByteArray) (m t : Nat), (∀ r ∈ rs, 1 ≤ r.size ∧ r.size < 65536) → t ≤ total rs → t < m →
    ∃ k, k ≤ rs.length ∧ recsFrom m (some ((enc rs).extract 0 t)) = rs.take k ∧ total (rs.take k) ≤ t ∧ ∀ j, j ≤ rs.length → total (rs.take j) ≤ t → j ≤ k
  | [], m, t, hr, ht, hm => by
    refine ⟨0, Nat.le_refl _, ?_, Nat.zero_le _, fun j hj _ => hj⟩
    have ht0 : t ≤ 0 := ht
    exact recs_none m _ (by rw [ByteArray.size_extract]; omega)
  | r :: l, 0, t, hr, ht, hm => absurd hm (Nat.not_lt_zero _)
  | r :: l, m + 1, t, hr, ht, hm => by
    obtain ⟨a0, a1⟩ := hr r List.mem_cons_self
    have hs := Oct.str_size r.size 2
    have ht' : t ≤ (2 + r.size) + total l := by rw [← total_cons]; exact ht
    show ∃ k, k ≤ (r :: l).length ∧ recsFrom (m + 1) (some (((Oct.str r.size 2 ++ r) ++ enc l).extract 0 t)) = (r :: l).take k ∧ _
    by_cases h : t < 2 + r.size
    · refine ⟨0, Nat.zero_le _, recs_stop m r _ t a1 h, Nat.zero_le _, fun j hj h2 => ?_⟩
      cases j with
      | zero => exact Nat.le_refl _
      | succ j =>
        rw [List.take_succ_cons, total_cons] at h2
        omega
    · have hz : (Oct.str r.size 2 ++ r).size = 2 + r.size := by rw [ByteArray.size_append, hs]
      obtain ⟨k, k1, k2, k3, k4⟩ := recs_pre l m (t - (2 + r.size)) (fun x hx => hr x (List.mem_cons_of_mem _ hx)) (by omega) (by omega)
      refine ⟨k + 1, Nat.succ_le_succ k1, ?_, ?_, fun j hj h2 => ?_⟩
      · rw [ext_long _ _ _ (by omega), hz, recs_step m r _ a0 a1, k2]
        rfl
      · rw [List.take_succ_cons, total_cons]; omega
      · cases j with
        | zero => exact Nat.zero_le _
        | succ j =>
          rw [List.take_succ_cons, total_cons] at h2
          have := k4 j (by simpa using hj) (by omega)
          omega
/-- Behind what stands ahead of the first record of start's sector. -/
theorem recs_behind (pre : ByteArray) (rs : List ByteArray) (t m : Nat) (hr : ∀ r ∈ rs, 1 ≤ r.size ∧ r.size < 65536) (ht : t ≤ pre.size + total rs) (hm : t < m) :
    ∃ k, k ≤ rs.length ∧ recsFrom m (some ((padTo ((pre ++ enc rs).extract 0 t) pre.size).extract pre.size (padTo ((pre ++ enc rs).extract 0 t) pre.size).size)) = rs.take k ∧ (total (rs.take k) = 0 ∨ pre.size + total (rs.take k) ≤ t) ∧ ∀ j, j ≤ rs.length → pre.size + total (rs.take j) ≤ t → j ≤ k := by
  have hz : ((pre ++ enc rs).extract 0 t).size = t := by rw [ByteArray.size_extract, ByteArray.size_append, enc_size]; omega
  by_cases h : pre.size ≤ t
  · have e : padTo ((pre ++ enc rs).extract 0 t) pre.size = pre ++ (enc rs).extract 0 (t - pre.size) := by
      unfold padTo
      rw [hz, Nat.sub_eq_zero_of_le h, ext_long _ _ _ h]
      apply ByteArray.ext
      rw [ByteArray.data_append]
      show _ ++ (Fr.zs 0).data = _
      simp [Fr.zs]
    have e2 : (pre ++ (enc rs).extract 0 (t - pre.size)).extract pre.size (pre ++ (enc rs).extract 0 (t - pre.size)).size = (enc rs).extract 0 (t - pre.size) := Oct.drop_app _ _
    rw [e, e2]
    obtain ⟨k, k1, k2, k3, k4⟩ := recs_pre rs m (t - pre.size) hr (by omega) (by omega)
    exact ⟨k, k1, k2, .inr (by omega), fun j hj h2 => k4 j hj (by omega)⟩
  · refine ⟨0, Nat.zero_le _, ?_, .inl rfl, fun j hj h2 => by omega⟩
    have hp : (padTo ((pre ++ enc rs).extract 0 t) pre.size).size = pre.size := by rw [pad_size, hz]; omega
    exact recs_none m _ (by rw [ByteArray.size_extract, hp]; omega)
end Go.Proofs.Ytplcddcdhnjfeaa
