/- A log as the program keeps it, plain: its fields, a sector of its ring, what Create, Append, Flush make. No walk in sight. -/
import Derived.Test.YtgafajbdmegfgaaGreatDskWalk
import Derived.Test.YtgafajbdmegfgaaGreatOctPlain2
import Derived.Lib.AppendStr
import Derived.Lib.Repeat
set_option linter.unusedVariables false
set_option linter.unusedSimpArgs false
namespace Go.Proofs.YtgafajbdmegfgaaGreat
open Go.RowKit

/-- The log's fields. -/
structure Lg where
  first : Nat
  n : Nat
  start : Nat
  fin : Nat
  firm : Nat
  data : ByteArray
  places : List Nat

def flr (a : Nat) : Nat := a - a % 54
theorem flr_le (a : Nat) : flr a ≤ a := by unfold flr; omega
theorem flr_gt (a : Nat) : a < flr a + 54 := by unfold flr; omega
theorem flr_mul (a : Nat) : flr a = a / 54 * 54 := by unfold flr; omega
theorem flr_mono {a b : Nat} (h : a ≤ b) : flr a ≤ flr b := by rw [flr_mul, flr_mul]; exact Nat.mul_le_mul_right _ (Nat.div_le_div_right h)

structure Lg.ok (L : Lg) : Prop where
  n1 : 128 ≤ L.n
  n2 : L.n ≤ 4096
  f1 : L.first ≤ 16384
  s0 : 54 ≤ L.start
  sf : L.start ≤ L.firm
  fe : L.firm ≤ L.fin
  big : L.fin ≤ 1152921504606846976
  sz : L.data.size = L.fin - flr L.start
  rm : L.fin - flr L.start ≤ 54 * L.n
  few : L.places.length ≤ L.data.size
  asc : L.places.Pairwise (· < ·)
  hi : ∀ p ∈ L.places, L.start ≤ p ∧ p < L.fin

def Lg.room (L : Lg) : Nat := 54 * L.n - (L.fin - flr L.start)
/-- The stream's part in sector k. -/
def Lg.part (L : Lg) (k : Nat) : ByteArray := L.data.extract (k * 54 - flr L.start) (min (k * 54 - flr L.start + 54) L.data.size)
def Lg.sec (L : Lg) (k : Nat) : ByteArray := Oct.str (k + 1) 8 ++ Oct.str (L.part k).size 2 ++ L.part k ++ Fr.zs (54 - (L.part k).size)
theorem Lg.part_size (L : Lg) (k : Nat) : (L.part k).size ≤ 54 := by unfold Lg.part; rw [ByteArray.size_extract]; omega
theorem Lg.sec_size (L : Lg) (k : Nat) : (L.sec k).size = 64 := by
  have := L.part_size k
  unfold Lg.sec
  simp only [ByteArray.size_append, Oct.str_size, Fr.zs_size]
  omega
def Lg.new (first n : Nat) : Lg := ⟨first, n, 54, 54, 54, ⟨#[]⟩, []⟩
theorem Lg.new_ok (first n : Nat) (h1 : 128 ≤ n) (h2 : n ≤ 4096) (h3 : first ≤ 16384) : (Lg.new first n).ok :=
  ⟨h1, h2, h3, Nat.le_refl _, Nat.le_refl _, Nat.le_refl _, by show 54 ≤ 1152921504606846976; omega, (by show 0 = 54 - flr 54; unfold flr; omega), (by show 54 - flr 54 ≤ 54 * n; unfold flr; omega), Nat.zero_le _, .nil, fun p h => by cases h⟩
/-- What Append makes of it, where there is room. -/
def Lg.more (L : Lg) (rec : ByteArray) : Lg := { L with places := L.places ++ [L.fin], data := L.data ++ (Oct.str rec.size 2 ++ rec), fin := L.fin + (2 + rec.size) }
theorem Lg.more_ok {L : Lg} (h : L.ok) (rec : ByteArray) (h0 : 0 < rec.size) (hr : rec.size + 2 ≤ L.room) (hb : L.fin ≤ 1152921504606000000) : (L.more rec).ok := by
  have hr' : rec.size + 2 ≤ 54 * L.n - (L.fin - flr L.start) := hr
  have fl := flr_le L.start
  have a1 := h.n1; have a2 := h.n2; have a3 := h.sf; have a4 := h.fe; have a5 := h.rm; have a6 := h.sz; have a7 := h.few; have a8 := h.hi
  have sz : (L.data ++ (Oct.str rec.size 2 ++ rec)).size = L.data.size + (2 + rec.size) := by simp only [ByteArray.size_append, Oct.str_size]
  refine ⟨h.n1, h.n2, h.f1, h.s0, h.sf, ?_, ?_, ?_, ?_, ?_, ?_, ?_⟩
  · show L.firm ≤ L.fin + (2 + rec.size); omega
  · show L.fin + (2 + rec.size) ≤ 1152921504606846976; omega
  · show (L.data ++ (Oct.str rec.size 2 ++ rec)).size = L.fin + (2 + rec.size) - flr L.start
    rw [sz]; omega
  · show L.fin + (2 + rec.size) - flr L.start ≤ 54 * L.n; omega
  · show (L.places ++ [L.fin]).length ≤ (L.data ++ (Oct.str rec.size 2 ++ rec)).size
    rw [sz, List.length_append]; simp; omega
  · show (L.places ++ [L.fin]).Pairwise (· < ·)
    rw [List.pairwise_append]
    exact ⟨h.asc, .cons (fun _ h => by cases h) .nil, fun p hp q hq => by simp at hq; subst hq; exact (a8 p hp).2⟩
  · intro p hp
    show L.start ≤ p ∧ p < L.fin + (2 + rec.size)
    rcases List.mem_append.1 hp with hp | hp
    · have := a8 p hp; omega
    · simp at hp; omega
def Lg.append (L : Lg) (rec : ByteArray) : Lg × (Nat × Int) :=
  if rec.size = 0 then (L, 0, 1) else if 65535 < rec.size then (L, 0, 2) else if L.room < rec.size + 2 then (L, 0, 70) else (L.more rec, L.fin, 0)
theorem strCells_append (a b : ByteArray) : Lib.strCells a ++ Lib.strCells b = Lib.strCells (a ++ b) := by simp [Lib.strCells]
/-- A string of zeros, as strings.Repeat spells it. -/
theorem repeat_zs (n : Nat) : (⟨(Lib.repeatL (⟨#[0]⟩ : ByteArray).data.toList n).toArray⟩ : ByteArray) = Fr.zs n := by
  unfold Fr.zs
  congr 2
  induction n with
  | zero => rfl
  | succ n ih => 
    show _ = (0 : UInt8) :: List.replicate n 0
    rw [← ih]; rfl
/-- Blanks, written on blanks. -/
theorem blanks_set (N k : Nat) : (blanks N).set k (Fr.zs 64) = blanks N := by
  unfold blanks
  apply List.ext_getElem?
  intro i
  by_cases h : i < N
  · rw [List.getElem?_set]
    by_cases hk : k = i
    · subst hk; simp [h]
    · simp [hk, h]
  · rw [List.getElem?_eq_none (by simp; omega), List.getElem?_eq_none (by simp; omega)]
theorem blanks_apply (N : Nat) : ∀ l : List (Nat × ByteArray), (∀ p ∈ l, p.2 = Fr.zs 64) → apply (blanks N) l = blanks N
  | [], _ => rfl
  | p :: l, h => by
    show apply ((blanks N).set p.1 p.2) l = blanks N
    rw [h p (by simp), blanks_set]
    exact blanks_apply N l (fun q hq => h q (by simp [hq]))
/-- The device, as Create's loop goes on. -/
def mkS (N first : Nat) (k : Nat) : Dsk := ⟨blanks N, blanks N, (List.range k).map fun j => (first + j, Fr.zs 64), -1, false⟩
theorem mkS_zero (N first : Nat) : mkS N first 0 = .start (blanks N) := rfl
theorem mkS_write (N first k : Nat) (h : first + k < N) : (mkS N first k).write ((first + k : Nat) : Int) (Fr.zs 64) = (mkS N first (k + 1), 0) := by
  unfold Dsk.write
  have h1 : (mkS N first k).down = false := rfl
  have h2 : (mkS N first k).firm.length = N := by simp [mkS, blanks]
  have h3 : (mkS N first k).fuel = -1 := rfl
  rw [if_neg (by rw [h1]; simp), if_pos ⟨by omega, by rw [h2]; omega, Fr.zs_size 64⟩, if_neg (by rw [h3]; omega)]
  have e : (mkS N first k).wrote (first + k) (Fr.zs 64) = mkS N first (k + 1) := by
    unfold Dsk.wrote Dsk.burnt mkS
    simp only [blanks_set, List.range_succ, List.map_append, List.map_cons, List.map_nil]
    rfl
  rw [Int.toNat_natCast, e]
theorem mkS_barrier (N first k : Nat) : (mkS N first k).barrier = (.start (blanks N), 0) := by
  unfold Dsk.barrier
  rw [if_neg (by show ¬ false = true; simp), if_neg (by show ¬ (-1 : Int) = 0; omega)]
  unfold Dsk.synced Dsk.burnt mkS
  dsimp only
  rw [blanks_apply N _ (fun p hp => by obtain ⟨j, _, rfl⟩ := List.mem_map.1 hp; rfl)]
  rfl
end Go.Proofs.YtgafajbdmegfgaaGreat
