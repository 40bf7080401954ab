/- Plain facts on numbers as bytes, lowest first: no program in sight. -/
import Derived.WalkKit
import Derived.Laws.BitsAllLaws
set_option linter.unusedVariables false
set_option linter.unusedSimpArgs false
namespace Go.Proofs.YtgafajbdmegfgaaGreat
namespace Oct

/-- The first k bytes of n, lowest first. -/
def bs (n : Nat) (k : Nat) : List Nat := (List.range k).map fun i => n / 256 ^ i % 256

theorem bs_length (n k : Nat) : (bs n k).length = k := by simp [bs]
theorem bs_succ (n k : Nat) : bs n (k + 1) = bs n k ++ [n / 256 ^ k % 256] := by
  simp [bs, List.range_succ]
theorem bs_zero (n : Nat) : bs n 0 = [] := rfl

/-- What is left of n behind k bytes. -/
def rest (n k : Nat) : Nat := n / 256 ^ k
theorem rest_zero (n : Nat) : rest n 0 = n := by simp [rest]
theorem rest_succ (n k : Nat) : rest n (k + 1) = rest n k / 256 := by simp [rest, Nat.pow_succ, Nat.div_div_eq_div_mul]
theorem rest_mod (n k : Nat) : n / 256 ^ k % 256 = rest n k % 256 := rfl

/-- The block of a number's bytes while it is being filled: k of them are there. -/
def cells (n width k : Nat) : Array Value := ((List.range width).map fun i => Value.int .u8 (if i < k then ((n / 256 ^ i % 256 : Nat) : Int) else 0)).toArray

theorem cells_start (n width : Nat) : madeCells #[Value.int .u8 0] width = cells n width 0 := by
  apply Array.ext_getElem?
  intro i
  by_cases h : i < width <;> simp [madeCells, cells, h, Nat.mod_one]
theorem cells_size (n width k : Nat) : (cells n width k).size = width := by simp [cells]
theorem cells_set (n width k : Nat) (v : Int) (hv : v = ((rest n k % 256 : Nat) : Int)) : (cells n width k).setIfInBounds k (.int .u8 v) = cells n width (k + 1) := by
  subst hv
  rw [← rest_mod]
  apply Array.ext
  · simp [cells]
  intro i h1 h2
  have hi : i < width := by simpa [cells] using h1
  rw [Array.getElem_setIfInBounds (by simpa [cells] using hi)]
  simp only [cells, List.getElem_toArray, List.getElem_map, List.getElem_range]
  by_cases e : k = i
  · subst e; simp
  · by_cases hk : i < k
    · have : i < k + 1 := by omega
      simp [e, hk, this]
    · have : ¬ i < k + 1 := by omega
      simp [e, hk, this]

def bytesOf (l : List Nat) : ByteArray := ⟨(l.map UInt8.ofNat).toArray⟩
def str (n k : Nat) : ByteArray := bytesOf (bs n k)

theorem fold_push (ns : List Int) : ∀ (r : ByteArray), ns.foldl (fun r n => r.push (UInt8.ofNat n.toNat)) r = ⟨(r.data.toList ++ ns.map fun n => UInt8.ofNat n.toNat).toArray⟩ := by
  induction ns with
  | nil => intro r; simp
  | cons n ns ih => intro r; simp only [List.foldl_cons]; rw [ih]; simp [ByteArray.push]

/-- 'string(b)', b over a row of known bytes. -/
theorem run_string {P : Program} (w : World) (src dst e : TypeId) (a : Addr) (l c : Nat) (ns : List Int)
    (hs : P.underlying src = some (.slice e)) (he : P.underlying e = some (.int .u8)) (hd : P.underlying dst = some .string) (hl : ns.length = l)
    (h : ∀ j v, (ns.map (Value.int .u8))[j]? = some v → w.cell? (a.add j) = some v) :
    (convert src dst (.slice (some a) l c)).run P w = .ok (.string ⟨(ns.map fun n => UInt8.ofNat n.toNat).toArray⟩) w := by
  rw [run_convert_bytes_string w src dst e (some a) l c hs he hd]
  have h1 := run_loadCells_list (P := P) (w := w) a (ns.map (Value.int .u8)) h
  rw [List.length_map, hl] at h1
  rw [run_bytesToString w a l c ns h1, fold_push]
  rfl

theorem cell_add_new (w : World) (c : Array Value) (t : TypeId) (j : Nat) : (w.alloc (.cells c t)).cell? ((⟨w.heap.size, 0, none⟩ : Addr).add j) = c[j]? := by
  have h : (⟨w.heap.size, 0, none⟩ : Addr).add j = ⟨w.heap.size, j, none⟩ := by
    unfold Addr.add
    by_cases hj : j = 0
    · subst hj; simp
    · simp [hj]
  rw [h, World.cell?_alloc_at c t w.heap.size j rfl]

/-- The block of a number's bytes, as a string. -/
theorem run_cells {P : Program} (w : World) (src dst e : TypeId) (n k c : Nat)
    (hs : P.underlying src = some (.slice e)) (he : P.underlying e = some (.int .u8)) (hd : P.underlying dst = some .string) :
    (convert src dst (.slice (some ⟨w.heap.size, 0, none⟩) k c)).run P (w.alloc (.cells (cells n k k) e)) = .ok (.string (str n k)) (w.alloc (.cells (cells n k k) e)) := by
  rw [run_string _ src dst e _ k c ((bs n k).map Int.ofNat) hs he hd (by simp [bs])]
  · simp [str, bytesOf, Function.comp_def]
  · intro j v hv
    have hj : j < k := by
      have := (List.getElem?_eq_some_iff.1 hv).1
      simpa [bs] using this
    rw [cell_add_new]
    simp [cells, hj]
    simpa [bs, hj] using hv

/-- A text with its length ahead. -/
def text (s : ByteArray) : ByteArray := ⟨#[UInt8.ofNat s.size]⟩ ++ s

/-- 'string([]byte{n})'. -/
theorem run_string1 {P : Program} (w : World) (src dst e : TypeId) (n : Nat)
    (hs : P.underlying src = some (.slice e)) (he : P.underlying e = some (.int .u8)) (hd : P.underlying dst = some .string) :
    (convert src dst (.slice (some ⟨w.heap.size, 0, none⟩) 1 1)).run P (w.alloc (.cells #[.int .u8 n] e)) = .ok (.string ⟨#[UInt8.ofNat n]⟩) (w.alloc (.cells #[.int .u8 n] e)) := by
  rw [run_string _ src dst e _ 1 1 [(n : Int)] hs he hd rfl]
  · simp
  · intro j v hv
    rw [cell_add_new]
    simpa using hv

/-- The number of bytes, lowest first. -/
def val : List UInt8 → Nat
  | [] => 0
  | b :: l => b.toNat + 256 * val l
theorem val_snoc (l : List UInt8) (b : UInt8) : val (l ++ [b]) = val l + b.toNat * 256 ^ l.length := by
  induction l with
  | nil => simp [val]
  | cons a l ih =>
    simp only [List.cons_append, val, ih, List.length_cons, Nat.pow_succ, Nat.mul_add, Nat.add_assoc]
    rw [Nat.mul_left_comm, Nat.mul_comm 256 (256 ^ l.length)]
theorem val_lt (l : List UInt8) : val l < 256 ^ l.length := by
  induction l with
  | nil => simp [val]
  | cons a l ih =>
    have ha : a.toNat < 256 := a.toNat_lt
    simp only [val, List.length_cons, Nat.pow_succ]
    omega
theorem pow8_le (k : Nat) (h : k ≤ 8) : 256 ^ k ≤ 18446744073709551616 := by
  have : 256 ^ k ≤ 256 ^ 8 := Nat.pow_le_pow_right (by omega) h
  simpa using this

/-- The number of the first k bytes of a string. -/
def valTo (s : ByteArray) (k : Nat) : Nat := val (s.data.toList.take k)
def sval (s : ByteArray) : Nat := val s.data.toList
theorem valTo_zero (s : ByteArray) : valTo s 0 = 0 := by simp [valTo, val]
theorem valTo_size (s : ByteArray) : valTo s s.size = sval s := by
  unfold valTo sval
  rw [List.take_of_length_le (by simp)]
theorem valTo_succ (s : ByteArray) (k : Nat) (h : k < s.size) : valTo s (k + 1) = valTo s k + s[k].toNat * 256 ^ k := by
  unfold valTo
  rw [List.take_succ_eq_append_getElem (by simpa using h), val_snoc, List.length_take]
  have : min k s.data.toList.length = k := Nat.min_eq_left (by simpa using Nat.le_of_lt h)
  rw [this]
  rfl
theorem valTo_lt (s : ByteArray) (k : Nat) (h : k ≤ s.size) : valTo s k < 256 ^ k := by
  have := val_lt (s.data.toList.take k)
  rw [List.length_take, Nat.min_eq_left (by simpa using h)] at this
  exact this
theorem sval_lt (s : ByteArray) : sval s < 256 ^ s.size := by
  have := val_lt s.data.toList
  simpa [sval] using this
/-- The number of the bytes from place k on. -/
def valFrom (s : ByteArray) (k : Nat) : Nat := val (s.data.toList.drop k)
theorem valFrom_zero (s : ByteArray) : valFrom s 0 = sval s := by simp [valFrom, sval]
theorem valFrom_size (s : ByteArray) : valFrom s s.size = 0 := by
  unfold valFrom
  rw [List.drop_eq_nil_of_le (by simp)]
  rfl
theorem valFrom_pred (s : ByteArray) (k : Nat) (h : k < s.size) : valFrom s k = s[k].toNat + 256 * valFrom s (k + 1) := by
  unfold valFrom
  rw [List.drop_eq_getElem_cons (by simpa using h)]
  rfl
theorem valFrom_lt (s : ByteArray) (k : Nat) : valFrom s k < 256 ^ (s.size - k) := by
  have := val_lt (s.data.toList.drop k)
  rw [List.length_drop] at this
  simpa [valFrom] using this

theorem or_step (v c k : Nat) (hv : v < 256 ^ k) (hc : c < 256) (hk : k ≤ 7) :
    bits .or .u64 (v : Int) (IntKind.u64.wrap (IntKind.u64.wrap (c : Int) * 2 ^ (8 * k))) = ((v + c * 256 ^ k : Nat) : Int) := by
  have hp : (256 : Nat) ^ k * 256 ≤ 18446744073709551616 := by
    have := pow8_le (k + 1) (by omega)
    rwa [Nat.pow_succ] at this
  have hcp : c * 256 ^ k < 256 ^ k * 256 := by
    rw [Nat.mul_comm]
    exact Nat.mul_lt_mul_of_pos_left hc (Nat.pow_pos (by omega))
  have h1 : IntKind.u64.wrap (c : Int) = (c : Int) := by rw [IntKind.wrap_u64]; omega
  have h2 : ((2 : Int) ^ (8 * k)) = ((256 ^ k : Nat) : Int) := by
    rw [Int.pow_mul]; norm_cast
  have h3 : IntKind.u64.wrap ((c : Int) * ((256 ^ k : Nat) : Int)) = ((c * 256 ^ k : Nat) : Int) := by
    rw [IntKind.wrap_u64, ← Int.natCast_mul]; omega
  rw [h1, h2, h3, u64_or_nat v (c * 256 ^ k) (by omega) (by omega)]
  congr 1
  rw [Nat.mul_comm c, Nat.or_comm, Nat.add_comm v]
  have e : (256 : Nat) ^ k = 2 ^ (8 * k) := by rw [Nat.pow_mul]
  rw [e] at hv ⊢
  exact (Nat.two_pow_add_eq_or_of_lt hv c).symm
theorem mul_step (v c : Nat) (hv : v < 72057594037927936) (hc : c < 256) :
    IntKind.u64.wrap ((v : Int) * 256 + IntKind.u64.wrap (c : Int)) = ((c + 256 * v : Nat) : Int) := by
  have h1 : IntKind.u64.wrap (c : Int) = (c : Int) := by rw [IntKind.wrap_u64]; omega
  rw [h1, IntKind.wrap_u64]; omega

/-- 'string(b)', b of the call's own. -/
theorem run_string_own {P : Program} (w : World) (src dst e : TypeId) (base : Nat) (v : Value) (n : Nat) (ns : List Int)
    (hs : P.underlying src = some (.slice e)) (he : P.underlying e = some (.int .u8)) (hd : P.underlying dst = some .string)
    (h : w.ownsRow base e 1 v n (ns.map (Value.int .u8))) :
    (convert src dst v).run P w = .ok (.string ⟨(ns.map fun n => UInt8.ofNat n.toNat).toArray⟩) w := by
  rcases h with ⟨hl, ⟨rfl, rfl⟩ | ⟨g, cap, cur, rfl, h1, h2, h3, h4, h5, h6⟩⟩
  · have : ns = [] := by simpa using hl
    subst this
    rw [run_convert_bytes_string w src dst e none 0 0 hs he hd]
    simp [Conv.bytesToString, Sem.run_pure]; rfl
  · refine run_string w src dst e _ n cap ns hs he hd (by simpa using hl) fun j v hv => ?_
    have hj : j < n := by
      have := (List.getElem?_eq_some_iff.1 hv).1
      simp at this hl; omega
    have ha : (⟨g, 0, none⟩ : Addr).add j = ⟨g, j, none⟩ := by
      unfold Addr.add
      by_cases hj : j = 0
      · subst hj; simp
      · simp [hj]
    rw [ha, cell_of_row w g j cur e (0, 0) h2]
    rw [← h6] at hv
    rw [List.getElem?_take_of_lt (by omega)] at hv
    simpa using hv

/-- The bytes as values. -/
def vals (n k : Nat) : List Value := ((bs n k).map Int.ofNat).map (Value.int .u8)
theorem vals_succ (n k : Nat) : vals n (k + 1) = vals n k ++ [.int .u8 ((n / 256 ^ k % 256 : Nat) : Int)] := by
  simp [vals, bs_succ]
theorem vals_length (n k : Nat) : (vals n k).length = k := by simp [vals, bs]
theorem str_eq (n k : Nat) : (⟨(((bs n k).map Int.ofNat).map fun n => UInt8.ofNat n.toNat).toArray⟩ : ByteArray) = str n k := by
  simp [str, bytesOf, Function.comp_def]

theorem rest_le (n k : Nat) : rest n k ≤ n := Nat.div_le_self _ _
theorem quo_step (n k : Nat) (h : n < 18446744073709551616) : IntKind.u64.wrap ((rest n k : Int) / 256) = ((rest n (k + 1) : Nat) : Int) := by
  have := rest_le n k
  rw [rest_succ, IntKind.wrap_u64]; omega

theorem str_size (n k : Nat) : (str n k).size = k := by
  show (str n k).data.size = k
  simp [str, bytesOf, bs]
theorem fits_iff (n w : Int) (h0 : 0 ≤ n) (h1 : 1 ≤ w) (h2 : w ≤ 7) : rest n.toNat w.toNat = 0 ↔ n < IntKind.u64.wrap (2 ^ (8 * w).toNat) := by
  obtain ⟨a, rfl⟩ := Int.eq_ofNat_of_zero_le h0
  obtain ⟨b, rfl⟩ := Int.eq_ofNat_of_zero_le (show 0 ≤ w by omega)
  have e : (8 * (b : Int)).toNat = 8 * b := by omega
  have h3 : ((2 : Int) ^ (8 * b)) = ((256 ^ b : Nat) : Int) := by
    rw [Int.pow_mul]; norm_cast
  have h4 := pow8_le (b + 1) (by omega)
  have h5 : 0 < 256 ^ b := Nat.pow_pos (by omega)
  rw [Nat.pow_succ] at h4
  rw [e, h3, IntKind.wrap_u64, Int.toNat_natCast, Int.toNat_natCast]
  unfold rest
  rw [Nat.div_eq_zero_iff]
  omega

end Oct
end Go.Proofs.YtgafajbdmegfgaaGreat
