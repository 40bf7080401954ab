/- Pages as sectors, as plain functions. No program in sight. -/
import Derived.Test.YtgafajbdmegfgaaGreatBk
import Derived.Test.YtgafajbdmegfgaaGreatOctPlain2
import Derived.Test.YtgafajbdmegfgaaGreatZs
set_option linter.unusedVariables false
set_option linter.unusedSimpArgs false
namespace Go.Proofs.YtgafajbdmegfgaaGreat
open Go.RowKit
namespace Fr

/-- Four sectors, as a value. -/
def sv (s : Nat → ByteArray) : Value := .agg #[.string (s 0), .string (s 1), .string (s 2), .string (s 3)]
def arr (s : Nat → ByteArray) : Array Value := #[.string (s 0), .string (s 1), .string (s 2), .string (s 3)]
/-- Sector i of a page. -/
def sec (body mark : ByteArray) (i : Nat) : ByteArray := body.extract (i * 56) ((i + 1) * 56) ++ mark
/-- The sectors while k of them are made. -/
def upto (s : Nat → ByteArray) (k : Nat) (i : Nat) : ByteArray := if i < k then s i else ⟨#[]⟩
def nils (i : Nat) : ByteArray := ⟨#[]⟩
theorem upto_zero (s : Nat → ByteArray) : upto s 0 = nils := by funext i; simp [upto, nils]
theorem four {k : Nat} (h : k < 4) : k = 0 ∨ k = 1 ∨ k = 2 ∨ k = 3 := by omega
theorem arr_get (s : Nat → ByteArray) (k : Nat) (h : k < 4) : (arr s)[k]? = some (.string (s k)) := by
  rcases four h with rfl | rfl | rfl | rfl <;> rfl
theorem arr_set (s : Nat → ByteArray) (k : Nat) (h : k < 4) : (arr (upto s k)).setIfInBounds k (.string (s k)) = arr (upto s (k + 1)) := by
  rcases four h with rfl | rfl | rfl | rfl <;> simp [arr, upto]
theorem arr_full (s : Nat → ByteArray) : arr (upto s 4) = arr s := by simp [arr, upto]

/-- What stands behind a sector's part of the page: the stamp. -/
def tl (s : ByteArray) : ByteArray := s.extract 56 s.size
/-- Going over sectors: n of them are still to come, the next one is i, b is what was read. -/
def openG (s : Nat → ByteArray) : Nat → Nat → ByteArray → ByteArray × Nat × Int
  | 0, _, b => (b, Oct.sval (tl (s 0)), 0)
  | n + 1, i, b => if (s i).size = 64 then (if tl (s i) = tl (s 0) then openG s n (i + 1) (b ++ (s i).extract 0 56) else (⟨#[]⟩, 0, 30)) else (⟨#[]⟩, 0, 1)
def opened (s : Nat → ByteArray) : ByteArray × Nat × Int := openG s 4 0 ⟨#[]⟩
theorem openG_step {s : Nat → ByteArray} {k : Nat} {b : ByteArray} (hk : k < 4) (h1 : (s k).size = 64) (h2 : tl (s k) = tl (s 0)) :
    openG s (4 - k) k b = openG s (4 - (k + 1)) (k + 1) (b ++ (s k).extract 0 56) := by
  rw [show 4 - k = (4 - (k + 1)) + 1 by omega]
  simp only [openG]
  rw [if_pos h1, if_pos h2]
theorem openG_arg {s : Nat → ByteArray} {k : Nat} {b : ByteArray} (hk : k < 4) (h1 : (s k).size ≠ 64) : openG s (4 - k) k b = (⟨#[]⟩, 0, 1) := by
  rw [show 4 - k = (4 - (k + 1)) + 1 by omega]
  simp only [openG]
  rw [if_neg h1]
theorem openG_torn {s : Nat → ByteArray} {k : Nat} {b : ByteArray} (hk : k < 4) (h1 : (s k).size = 64) (h2 : tl (s k) ≠ tl (s 0)) : openG s (4 - k) k b = (⟨#[]⟩, 0, 30) := by
  rw [show 4 - k = (4 - (k + 1)) + 1 by omega]
  simp only [openG]
  rw [if_pos h1, if_neg h2]
theorem tl_size {s : ByteArray} (h : s.size = 64) : (tl s).size = 8 := by
  unfold tl
  rw [ByteArray.size_extract]; omega
theorem sval8 (s : ByteArray) (h : s.size = 8) : Oct.sval s < 18446744073709551616 := by
  have := Oct.sval_lt s
  rw [h] at this
  simpa using this
theorem ext_app (s : ByteArray) (a b c : Nat) (h1 : a ≤ b) (h2 : b ≤ c) (h3 : c ≤ s.size) : s.extract a b ++ s.extract b c = s.extract a c := by
  apply ByteArray.ext
  rw [ByteArray.data_append, ByteArray.data_extract, ByteArray.data_extract, ByteArray.data_extract]
  rw [Array.extract_append_extract]
  congr 1 <;> omega
theorem ext_all (s : ByteArray) (n : Nat) (h : s.size = n) : s.extract 0 n = s := by
  subst h
  apply ByteArray.ext
  rw [ByteArray.data_extract]
  exact Array.extract_size
section
variable {body mark : ByteArray}
theorem part_size (hb : body.size = 224) {i : Nat} (hi : i < 4) : (body.extract (i * 56) ((i + 1) * 56)).size = 56 := by rw [ByteArray.size_extract]; omega
theorem sec_size (hb : body.size = 224) (hm : mark.size = 8) {i : Nat} (hi : i < 4) : (sec body mark i).size = 64 := by
  unfold sec; rw [ByteArray.size_append, part_size hb hi, hm]
theorem sec_tl (hb : body.size = 224) {i : Nat} (hi : i < 4) : tl (sec body mark i) = mark := by
  unfold tl sec
  have := Oct.drop_app (body.extract (i * 56) ((i + 1) * 56)) mark
  rw [part_size hb hi] at this
  exact this
theorem sec_part (hb : body.size = 224) {i : Nat} (hi : i < 4) : (sec body mark i).extract 0 56 = body.extract (i * 56) ((i + 1) * 56) := by
  unfold sec
  have := Oct.take_app (body.extract (i * 56) ((i + 1) * 56)) mark
  rw [part_size hb hi] at this
  exact this
end
/-- The parts of four sectors, one behind the other. -/
def parts (s : Nat → ByteArray) : ByteArray := (s 0).extract 0 56 ++ (s 1).extract 0 56 ++ (s 2).extract 0 56 ++ (s 3).extract 0 56
theorem opened_ok {s : Nat → ByteArray} (h : ∀ i, i < 4 → (s i).size = 64) (ht : ∀ i, i < 4 → tl (s i) = tl (s 0)) : opened s = (parts s, Oct.sval (tl (s 0)), 0) := by
  have e0 := h 0 (by omega); have e1 := h 1 (by omega); have e2 := h 2 (by omega); have e3 := h 3 (by omega)
  have t1 := ht 1 (by omega); have t2 := ht 2 (by omega); have t3 := ht 3 (by omega)
  simp [opened, openG, e0, e1, e2, e3, t1, t2, t3, Oct.nil_app, parts]
theorem opened_torn {s : Nat → ByteArray} (h : ∀ i, i < 4 → (s i).size = 64) (ht : ∃ i, i < 4 ∧ tl (s i) ≠ tl (s 0)) : opened s = (⟨#[]⟩, 0, 30) := by
  obtain ⟨j, hj, hne⟩ := ht
  have e0 := h 0 (by omega); have e1 := h 1 (by omega); have e2 := h 2 (by omega); have e3 := h 3 (by omega)
  by_cases h1 : tl (s 1) = tl (s 0)
  · by_cases h2 : tl (s 2) = tl (s 0)
    · by_cases h3 : tl (s 3) = tl (s 0)
      · exfalso
        rcases four hj with rfl | rfl | rfl | rfl
        · exact hne rfl
        · exact hne h1
        · exact hne h2
        · exact hne h3
      · simp [opened, openG, e0, e1, e2, e3, h1, h2, h3]
    · simp [opened, openG, e0, e1, e2, e3, h1, h2]
  · simp [opened, openG, e0, e1, e2, e3, h1]
theorem parts_sec {body mark : ByteArray} (hb : body.size = 224) : parts (sec body mark) = body := by
  unfold parts
  rw [sec_part hb (by omega), sec_part hb (by omega), sec_part hb (by omega), sec_part hb (by omega)]
  show body.extract 0 56 ++ body.extract 56 112 ++ body.extract 112 168 ++ body.extract 168 224 = body
  rw [ext_app body 0 56 112 (by omega) (by omega) (by omega), ext_app body 0 112 168 (by omega) (by omega) (by omega), ext_app body 0 168 224 (by omega) (by omega) (by omega)]
  exact ext_all body 224 hb
theorem opened_sec {body mark : ByteArray} (hb : body.size = 224) (hm : mark.size = 8) : opened (sec body mark) = (body, Oct.sval mark, 0) := by
  rw [opened_ok (fun i hi => sec_size hb hm hi) (fun i hi => by rw [sec_tl hb hi, sec_tl hb (by omega)]), parts_sec hb, sec_tl hb (by omega)]
/-- A stamp's bytes. -/
def mk (n : Nat) : ByteArray := Oct.str n 8
theorem mk_size (n : Nat) : (mk n).size = 8 := Oct.str_size _ _
theorem mk_val (n : Nat) (h : n < 18446744073709551616) : Oct.sval (mk n) = n := Oct.sval_str n 8 (by simpa using h)
theorem mk_inj {a b : Nat} (ha : a < 18446744073709551616) (hb : b < 18446744073709551616) (h : mk a = mk b) : a = b := by
  rw [← mk_val a ha, ← mk_val b hb, h]
end Fr
end Go.Proofs.YtgafajbdmegfgaaGreat
