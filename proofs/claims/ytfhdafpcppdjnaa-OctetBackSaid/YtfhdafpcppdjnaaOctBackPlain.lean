/- Plain facts: what was written, number by number and text by text, is read back. -/
import Derived.Test.YtfhdafpcppdjnaaOctPlain2
import Derived.Test.YtfhdafpcppdjnaaOctRd2
set_option linter.unusedVariables false
set_option linter.unusedSimpArgs false
namespace Go.Proofs.Ytfhdafpcppdjnaa
namespace Oct

def catTo (p : Nat → ByteArray) : Nat → ByteArray
  | 0 => ⟨#[]⟩
  | k + 1 => catTo p k ++ p k
def catFrom (p : Nat → ByteArray) (k : Nat) : Nat → ByteArray
  | 0 => ⟨#[]⟩
  | j + 1 => p k ++ catFrom p (k + 1) j
theorem app_nil (a : ByteArray) : a ++ ⟨#[]⟩ = a := by
  apply ByteArray.ext; simp
theorem nil_app (a : ByteArray) : (⟨#[]⟩ : ByteArray) ++ a = a := by
  apply ByteArray.ext; simp
theorem cat_split (p : Nat → ByteArray) (j : Nat) : ∀ k, catTo p (k + j) = catTo p k ++ catFrom p k j := by
  induction j with
  | zero => intro k; simp [catFrom, app_nil]
  | succ j ih =>
    intro k
    rw [show k + (j + 1) = (k + 1) + j by omega, ih (k + 1)]
    simp only [catTo, catFrom, ByteArray.append_assoc]
theorem cat_all (p : Nat → ByteArray) (n : Nat) : catTo p n = catFrom p 0 n := by
  have := cat_split p n 0
  rw [Nat.zero_add] at this
  rw [this]
  exact nil_app _
theorem catTo_size (p : Nat → ByteArray) (c : Nat) (h : ∀ k, (p k).size ≤ c) : ∀ n, (catTo p n).size ≤ n * c := by
  intro n
  induction n with
  | zero => exact Nat.zero_le _
  | succ n ih =>
    simp only [catTo, ByteArray.size_append, Nat.succ_mul]
    have := h n
    omega
theorem take_app (a b : ByteArray) : (a ++ b).extract 0 a.size = a := by
  apply ByteArray.ext
  rw [ByteArray.data_extract, ByteArray.data_append]
  have : a.size = a.data.size := rfl
  rw [this]
  simp
theorem drop_app (a b : ByteArray) : (a ++ b).extract a.size (a ++ b).size = b := by
  apply ByteArray.ext
  rw [ByteArray.data_extract, ByteArray.size_append, ByteArray.data_append]
  have h1 : a.size = a.data.size := rfl
  have h2 : b.size = b.data.size := rfl
  rw [h1, h2, Array.extract_append]
  have e1 : a.data.extract a.data.size (a.data.size + b.data.size) = #[] := by
    apply Array.ext'
    rw [Array.toList_extract]
    simp [List.extract_eq_take_drop]
  have e2 : b.data.extract (a.data.size - a.data.size) (a.data.size + b.data.size - a.data.size) = b.data := by
    rw [Nat.sub_self, Nat.add_sub_cancel_left, Array.extract_size]
  rw [e1, e2]
  simp

/-- The number that is written at place k, and its width. -/
def wd (k : Nat) : Nat := k % 8 + 1
def nm (z : Nat → Nat) (k : Nat) : Nat := if wd k < 8 then z k % 256 ^ wd k else z k
/-- 256 to the width, kept closed. -/
def pw (k : Nat) : Nat := 256 ^ wd k
/-- The bytes that are written at place k. -/
def pc (z : Nat → Nat) (k : Nat) : ByteArray := str (nm z k) (wd k)
def tx (s : Nat → ByteArray) (k : Nat) : ByteArray := text (s k)
theorem wd_bd (k : Nat) : 1 ≤ wd k ∧ wd k ≤ 8 := by unfold wd; omega
theorem nm_lt (z : Nat → Nat) (k : Nat) (h : z k < 18446744073709551616) : nm z k < 256 ^ wd k := by
  unfold nm
  split
  · exact Nat.mod_lt _ (Nat.pow_pos (by omega))
  · have : wd k = 8 := by have := wd_bd k; omega
    rw [this]; exact h
theorem nm_lt64 (z : Nat → Nat) (k : Nat) (h : z k < 18446744073709551616) : nm z k < 18446744073709551616 :=
  Nat.lt_of_lt_of_le (nm_lt z k h) (pow8_le _ (wd_bd k).2)
theorem nm_rest (z : Nat → Nat) (k : Nat) (h : z k < 18446744073709551616) : rest (nm z k) (wd k) = 0 := Nat.div_eq_of_lt (nm_lt z k h)
theorem pw_pos (k : Nat) : 0 < pw k := Nat.pow_pos (by omega)
theorem nm_small (z : Nat → Nat) (k : Nat) (h : k % 8 + 1 < 8) : ((z k : Int) % (pw k : Int)) = ((nm z k : Nat) : Int) := by
  unfold nm
  rw [if_pos (show wd k < 8 from h)]
  rfl
theorem nm_full (z : Nat → Nat) (k : Nat) (h : ¬ k % 8 + 1 < 8) : nm z k = z k := by
  unfold nm
  rw [if_neg (show ¬ wd k < 8 from h)]
theorem pc_size (z : Nat → Nat) (k : Nat) : (pc z k).size ≤ 8 := by unfold pc; rw [str_size]; exact (wd_bd k).2
theorem val_bs (k : Nat) : ∀ n, n < 256 ^ k → val ((bs n k).map UInt8.ofNat) = n := by
  induction k with
  | zero => intro n h; simp [bs, val] at *; omega
  | succ k ih =>
    intro n h
    have hs : ∀ j, j ≤ k → val ((bs n j).map UInt8.ofNat) = n % 256 ^ j := by
      intro j hj
      induction j with
      | zero => simp [bs, val, Nat.mod_one]
      | succ j ihj =>
        rw [bs_succ, List.map_append, List.map_cons, List.map_nil, val_snoc, ihj (by omega)]
        have h1 : (UInt8.ofNat (n / 256 ^ j % 256)).toNat = n / 256 ^ j % 256 := by simp
        rw [h1]
        simp only [List.length_map, bs_length]
        rw [Nat.pow_succ, Nat.mod_mul, Nat.mul_comm]
    rw [bs_succ, List.map_append, List.map_cons, List.map_nil, val_snoc, hs k (Nat.le_refl k)]
    have h1 : (UInt8.ofNat (n / 256 ^ k % 256)).toNat = n / 256 ^ k % 256 := by simp
    rw [h1]
    simp only [List.length_map, bs_length]
    have h2 : n / 256 ^ k < 256 := by
      rw [Nat.div_lt_iff_lt_mul (Nat.pow_pos (by omega))]
      rw [Nat.pow_succ, Nat.mul_comm] at h
      exact h
    rw [Nat.mod_eq_of_lt h2, Nat.mul_comm]
    exact Nat.mod_add_div _ _
theorem sval_str (n k : Nat) (h : n < 256 ^ k) : sval (str n k) = n := by
  unfold sval str bytesOf
  simpa using val_bs k n h

theorem rnum_back (n k : Nat) (R : ByteArray) (h1 : 1 ≤ k) (h2 : k ≤ 8) (h : n < 256 ^ k) : rnum (some (str n k ++ R)) k = (n, some R) := by
  have hsz := str_size n k
  have e1 : rbytes (some (str n k ++ R)) k = (str n k, some R) := by
    simp only [rbytes]
    rw [if_neg (by rw [ByteArray.size_append]; omega), Int.toNat_natCast]
    have a := take_app (str n k) R
    have b := drop_app (str n k) R
    rw [hsz] at a b
    rw [a, b]
  have e2 : rnum (some (str n k ++ R)) k = (nval (rbytes (some (str n k ++ R)) k).1, (rbytes (some (str n k ++ R)) k).2) := by
    simp only [rnum]; rw [if_neg (by omega)]
  rw [e2, e1]
  simp only [nval, hsz]
  rw [if_pos ⟨h1, h2⟩, sval_str n k h]
theorem text_str (s : ByteArray) (h : s.size ≤ 255) : text s = str s.size 1 ++ s := by
  unfold text str bytesOf bs
  congr 1
  apply ByteArray.ext
  simp
  rw [Nat.mod_eq_of_lt (by omega)]
theorem rtext_back (s R : ByteArray) (h : s.size ≤ 255) : rtext (some (text s ++ R)) = (s, some R) := by
  unfold rtext
  rw [text_str s h, ByteArray.append_assoc]
  have := rnum_back s.size 1 (s ++ R) (by omega) (by omega) (by omega)
  rw [show ((1 : Nat) : Int) = 1 from rfl] at this
  rw [this]
  simp only [rbytes]
  rw [if_neg (by rw [ByteArray.size_append]; omega), Int.toNat_natCast, take_app, drop_app]
/-- What is left to be read behind k numbers, with the texts behind them. -/
def leftN (z : Nat → Nat) (s : Nat → ByteArray) (len len' k : Nat) : ByteArray := catFrom (pc z) k (len - k) ++ catTo (tx s) len'
def leftT (s : Nat → ByteArray) (len' k : Nat) : ByteArray := catFrom (tx s) k (len' - k)
theorem leftN_start (z : Nat → Nat) (s : Nat → ByteArray) (len len' : Nat) : catTo (pc z) len ++ catTo (tx s) len' = leftN z s len len' 0 := by
  unfold leftN
  rw [cat_all (pc z) len, Nat.sub_zero]
theorem leftN_end (z : Nat → Nat) (s : Nat → ByteArray) (len len' : Nat) : leftN z s len len' len = leftT s len' 0 := by
  unfold leftN leftT
  rw [Nat.sub_self, Nat.sub_zero, ← cat_all]
  exact nil_app _
theorem leftT_end (s : Nat → ByteArray) (len' : Nat) : leftT s len' len' = ⟨#[]⟩ := by
  unfold leftT
  rw [Nat.sub_self]
  rfl
theorem leftN_read (z : Nat → Nat) (s : Nat → ByteArray) (len len' k : Nat) (hk : k < len) (hz : z k < 18446744073709551616) :
    rnum (some (leftN z s len len' k)) (wd k : Nat) = (nm z k, some (leftN z s len len' (k + 1))) := by
  unfold leftN
  rw [show len - k = (len - (k + 1)) + 1 by omega]
  show rnum (some (pc z k ++ catFrom (pc z) (k + 1) (len - (k + 1)) ++ catTo (tx s) len')) _ = _
  rw [ByteArray.append_assoc]
  exact rnum_back (nm z k) (wd k) _ (wd_bd k).1 (wd_bd k).2 (nm_lt z k hz)
theorem leftT_read (s : Nat → ByteArray) (len' k : Nat) (hk : k < len') (hs : (s k).size ≤ 255) : rtext (some (leftT s len' k)) = (s k, some (leftT s len' (k + 1))) := by
  unfold leftT
  rw [show len' - k = (len' - (k + 1)) + 1 by omega]
  exact rtext_back (s k) _ hs
theorem text_size (s : ByteArray) : (text s).size = s.size + 1 := by
  unfold text
  rw [ByteArray.size_append]
  show 1 + s.size = _
  omega
theorem tx_size (s : Nat → ByteArray) (n : Nat) (h : ∀ j, j < n → (s j).size ≤ 255) : (catTo (tx s) n).size ≤ n * 256 := by
  induction n with
  | zero => exact Nat.zero_le _
  | succ n ih =>
    simp only [catTo, ByteArray.size_append, Nat.succ_mul]
    have h1 := ih (fun j hj => h j (by omega))
    have h2 := h n (by omega)
    have h3 := text_size (s n)
    have h4 : (tx s n).size = (text (s n)).size := rfl
    omega
theorem leftN_size (z : Nat → Nat) (s : Nat → ByteArray) (len len' k : Nat) : (leftN z s len len' k).size ≤ (len - k) * 8 + (catTo (tx s) len').size := by
  have h : ∀ (j k : Nat), (catFrom (pc z) k j).size ≤ j * 8 := by
    intro j
    induction j with
    | zero => intro k; exact Nat.zero_le _
    | succ j ih =>
      intro k
      have := ih (k + 1)
      have := pc_size z k
      simp only [catFrom, ByteArray.size_append, Nat.succ_mul]
      omega
  unfold leftN
  rw [ByteArray.size_append]
  have := h (len - k) k
  omega
theorem leftT_size (s : Nat → ByteArray) (len' k : Nat) (hk : k ≤ len') : (leftT s len' k).size ≤ (catTo (tx s) len').size := by
  have := cat_split (tx s) (len' - k) k
  rw [show k + (len' - k) = len' by omega] at this
  rw [this, ByteArray.size_append]
  unfold leftT
  omega
end Oct
end Go.Proofs.Ytfhdafpcppdjnaa
