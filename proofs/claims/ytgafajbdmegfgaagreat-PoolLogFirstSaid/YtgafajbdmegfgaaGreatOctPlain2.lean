/- More plain facts on numbers as bytes. -/
import Derived.Test.YtgafajbdmegfgaaGreatOctPlain
import Derived.Deep.Draws
set_option linter.unusedVariables false
set_option linter.unusedSimpArgs false
namespace Go.Proofs.YtgafajbdmegfgaaGreat
namespace Oct
theorem rest_mono {a b : Nat} (j : Nat) (h : a ≤ b) : rest a j ≤ rest b j := Nat.div_le_div_right h
theorem order_lt {a b j : Nat} (h : rest a (j + 1) = rest b (j + 1)) (hl : rest a j % 256 < rest b j % 256) : a < b := by
  rw [rest_succ, rest_succ] at h
  rcases Nat.lt_or_ge a b with g | g
  · exact g
  · have := rest_mono j g
    omega
theorem order_eq {a b j : Nat} (h : rest a (j + 1) = rest b (j + 1)) (hl : rest a j % 256 = rest b j % 256) : rest a j = rest b j := by
  rw [rest_succ, rest_succ] at h
  omega
theorem str_get (n k j : Nat) (h : j < (str n k).size) : (str n k)[j].toNat = rest n j % 256 := by
  have hj : j < k := by rwa [str_size] at h
  have e : (str n k)[j] = (str n k).data[j]'h := rfl
  rw [e]
  simp [str, bytesOf, bs, rest]
theorem app_nil (a : ByteArray) : a ++ ⟨#[]⟩ = a := by
  apply ByteArray.ext; simp
theorem nil_app (a : ByteArray) : (⟨#[]⟩ : ByteArray) ++ a = a := by
  apply ByteArray.ext; simp
theorem take_app (a b : ByteArray) : (a ++ b).extract 0 a.size = a := by
  apply ByteArray.ext
  rw [ByteArray.data_extract, ByteArray.data_append]
  have : a.size = a.data.size := rfl
  rw [this]
  simp
theorem drop_app (a b : ByteArray) : (a ++ b).extract a.size (a ++ b).size = b := by
  apply ByteArray.ext
  rw [ByteArray.data_extract, ByteArray.size_append, ByteArray.data_append]
  have h1 : a.size = a.data.size := rfl
  have h2 : b.size = b.data.size := rfl
  rw [h1, h2, Array.extract_append]
  have e1 : a.data.extract a.data.size (a.data.size + b.data.size) = #[] := by
    apply Array.ext'
    rw [Array.toList_extract]
    simp [List.extract_eq_take_drop]
  have e2 : b.data.extract (a.data.size - a.data.size) (a.data.size + b.data.size - a.data.size) = b.data := by
    rw [Nat.sub_self, Nat.add_sub_cancel_left, Array.extract_size]
  rw [e1, e2]
  simp

theorem val_bs (k : Nat) : ∀ n, n < 256 ^ k → val ((bs n k).map UInt8.ofNat) = n := by
  induction k with
  | zero => intro n h; simp [bs, val] at *; omega
  | succ k ih =>
    intro n h
    have hs : ∀ j, j ≤ k → val ((bs n j).map UInt8.ofNat) = n % 256 ^ j := by
      intro j hj
      induction j with
      | zero => simp [bs, val, Nat.mod_one]
      | succ j ihj =>
        rw [bs_succ, List.map_append, List.map_cons, List.map_nil, val_snoc, ihj (by omega)]
        have h1 : (UInt8.ofNat (n / 256 ^ j % 256)).toNat = n / 256 ^ j % 256 := by simp
        rw [h1]
        simp only [List.length_map, bs_length]
        rw [Nat.pow_succ, Nat.mod_mul, Nat.mul_comm]
    rw [bs_succ, List.map_append, List.map_cons, List.map_nil, val_snoc, hs k (Nat.le_refl k)]
    have h1 : (UInt8.ofNat (n / 256 ^ k % 256)).toNat = n / 256 ^ k % 256 := by simp
    rw [h1]
    simp only [List.length_map, bs_length]
    have h2 : n / 256 ^ k < 256 := by
      rw [Nat.div_lt_iff_lt_mul (Nat.pow_pos (by omega))]
      rw [Nat.pow_succ, Nat.mul_comm] at h
      exact h
    rw [Nat.mod_eq_of_lt h2, Nat.mul_comm]
    exact Nat.mod_add_div _ _
theorem sval_str (n k : Nat) (h : n < 256 ^ k) : sval (str n k) = n := by
  unfold sval str bytesOf
  simpa using val_bs k n h

theorem below_drewN {B : Nat} {a w : World} (h : Go.RowKit.Below B a w) (n : Nat) : Go.RowKit.Below B a (w.drewN n) := ⟨h.os, h.tape, h.output, h.size, h.block⟩
end Oct
end Go.Proofs.YtgafajbdmegfgaaGreat
