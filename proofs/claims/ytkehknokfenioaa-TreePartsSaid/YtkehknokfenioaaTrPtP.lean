/- Layer 16: ranges in parts: plain. -/
import Derived.Test.YtkehknokfenioaaTrBkP
set_option linter.unusedVariables false
set_option linter.unusedSimpArgs false
namespace Go.Proofs.Ytkehknokfenioaa
open Go.RowKit Go.Maps

theorem bl_succ : ∀ (x k : List UInt8), Op.bytesLess x (k ++ [0]) = !(Op.bytesLess k x)
  | [], [] => rfl
  | [], b :: k => rfl
  | a :: x, [] => by
    show (decide (a < 0) || (a == 0 && Op.bytesLess x [])) = !true
    have h1 : Op.bytesLess x [] = false := by cases x <;> rfl
    have h2 : ¬ a < 0 := by intro h; exact absurd (UInt8.lt_iff_toNat_lt.1 h) (Nat.not_lt_zero _)
    rw [h1, decide_eq_false h2]; simp
  | a :: x, b :: k => by
    show (decide (a < b) || (a == b && Op.bytesLess x (k ++ [0]))) = !(decide (b < a) || (b == a && Op.bytesLess k x))
    rw [bl_succ x k]
    have tri : a < b ∨ a = b ∨ b < a := by
      rcases Nat.lt_trichotomy a.toNat b.toNat with h | h | h
      · exact .inl (UInt8.lt_iff_toNat_lt.2 h)
      · exact .inr (.inl (UInt8.toNat_inj.1 h))
      · exact .inr (.inr (UInt8.lt_iff_toNat_lt.2 h))
    rcases tri with h | h | h
    · have h2 : ¬ b < a := fun h3 => by have := UInt8.lt_iff_toNat_lt.1 h; have := UInt8.lt_iff_toNat_lt.1 h3; omega
      have h3 : ¬ b = a := fun e => by subst e; have := UInt8.lt_iff_toNat_lt.1 h; omega
      simp [h, h2, h3]
    · subst h
      have h2 : ¬ a < a := fun h3 => by have := UInt8.lt_iff_toNat_lt.1 h3; omega
      simp [h2]
    · have h2 : ¬ a < b := fun h3 => by have := UInt8.lt_iff_toNat_lt.1 h; have := UInt8.lt_iff_toNat_lt.1 h3; omega
      have h3 : ¬ a = b := fun e => by subst e; have := UInt8.lt_iff_toNat_lt.1 h; omega
      simp [h, h2, h3]
def kNul (k : ByteArray) : ByteArray := k ++ (⟨#[0]⟩ : ByteArray)
theorem toL_data (k : ByteArray) : k.toList = k.data.toList := by
  have h : ∀ (n i : Nat) (r : List UInt8), k.size - i = n → ByteArray.toList.loop k i r = r.reverse ++ k.data.toList.drop i := by
    intro n
    induction n with
    | zero =>
      intro i r hn
      unfold ByteArray.toList.loop
      have h1 : ¬ i < k.size := by omega
      rw [if_neg h1, List.drop_eq_nil_of_le (by show k.data.size ≤ i; have : k.data.size = k.size := rfl; omega)]
      simp
    | succ n ih =>
      intro i r hn
      unfold ByteArray.toList.loop
      have h1 : i < k.size := by omega
      have h2 : i < k.data.toList.length := h1
      rw [if_pos h1, ih (i + 1) _ (by omega), List.drop_eq_getElem_cons h2]
      simp [ByteArray.get!, getElem!_pos, h1]
  have := h k.size 0 [] (by omega)
  unfold ByteArray.toList
  simpa using this
theorem slt_nul (x k : ByteArray) : slt x (kNul k) = !(slt k x) := by
  unfold slt
  rw [show (kNul k).toList = k.toList ++ [0] from by rw [toL_data, toL_data]; unfold kNul; simp]
  exact bl_succ _ _
theorem kNul_size (k : ByteArray) : (kNul k).size = k.size + 1 := by unfold kNul; simp; rfl
theorem fromR_nul (R : List (ByteArray × Ce)) (k : ByteArray) : fromR R (kNul k) = R.filter fun x => slt k x.1 := by
  unfold fromR
  congr 1
  funext x
  rw [slt_nul]; simp
theorem fromR_nil (R : List (ByteArray × Ce)) : fromR R ⟨#[]⟩ = R := by
  unfold fromR
  refine List.filter_eq_self.2 fun x _ => ?_
  have : slt x.1 ⟨#[]⟩ = false := by unfold slt; rw [toL_data, toL_data, show (⟨#[]⟩ : ByteArray).data.toList = [] from rfl]; cases x.1.data.toList <;> rfl
  rw [this]; rfl
section
variable {pg : Nat → Pg} {n H : Nat} {ids : List Nat} {R : List (ByteArray × Ce)} {ff : Prop}
/-- The live pairs lie in order. -/
theorem Tl.kv_sorted (h : Tl pg n H ids R ff) : (kvOf R).Pairwise fun x y => slt x.1 y.1 = true := by
  unfold kvOf
  rw [List.pairwise_map]
  refine (List.Pairwise.filter _ ?_)
  refine h.sorted.imp_of_mem ?_
  intro a b ha hb hab
  show slt a.2.key b.2.key = true
  rw [(h.row ha).1, (h.row hb).1]
  exact hab
theorem Tl.kv_from (h : Tl pg n H ids R ff) (k : ByteArray) : kvOf (fromR R (kNul k)) = (kvOf R).filter fun p => slt k p.1 := by
  rw [fromR_nul]
  unfold kvOf
  rw [List.filter_map, List.filter_filter, List.filter_filter]
  congr 1
  refine List.filter_congr fun x hx => ?_
  show (decide (x.2.st = 1) && slt k x.1) = (slt k x.2.key && decide (x.2.st = 1))
  rw [(h.row hx).1, Bool.and_comm]
end
theorem filter_drop {l : List Kv} (hs : l.Pairwise fun x y => slt x.1 y.1 = true) {t : Nat} {p : Kv} (hp : l[t]? = some p) : (l.filter fun q => slt p.1 q.1) = l.drop (t + 1) := by
  induction l generalizing t with
  | nil => simp at hp
  | cons a l ih =>
    obtain ⟨h1, h2⟩ := List.pairwise_cons.1 hs
    cases t with
    | zero =>
      simp at hp; subst hp
      rw [List.filter_cons, if_neg (by simp [slt_irrefl])]
      rw [List.filter_eq_self.2 (fun x hx => h1 x hx)]
      simp
    | succ t =>
      simp at hp
      have hm := List.mem_of_getElem? hp
      rw [List.filter_cons, if_neg (by rw [slt_asymm (h1 p hm)]; simp), ih h2 hp]
      rfl
/-- Where a part ends, the next begins. -/
theorem next_part {pg : Nat → Pg} {n H : Nat} {ids : List Nat} {R : List (ByteArray × Ce)} {ff : Prop} (h : Tl pg n H ids R ff) {t : Nat} {p : Kv} (hp : (kvOf R)[t]? = some p) : kvOf (fromR R (kNul p.1)) = (kvOf R).drop (t + 1) := by
  rw [h.kv_from, filter_drop h.kv_sorted hp]
theorem kv_key {pg : Nat → Pg} {n H : Nat} {ids : List Nat} {R : List (ByteArray × Ce)} {ff : Prop} (h : Tl pg n H ids R ff) {z : Nat} (hz : ∀ x, x ∈ R → x.1.size ≤ z) {p : Kv} (hp : p ∈ kvOf R) : p.1.size ≤ z := by
  unfold kvOf at hp
  obtain ⟨x, hx, rfl⟩ := List.mem_map.1 hp
  have hm := (List.mem_filter.1 hx).1
  show x.2.key.size ≤ z
  rw [(h.row hm).1]; exact hz x hm
theorem step_small {R R2 : List (ByteArray × Ce)} {keep : List ByteArray} {k : ByteArray} {u : Ud} (h : Step16 R keep k u R2) {z : Nat} (hk : k.size ≤ z) (hz : ∀ x, x ∈ R → x.1.size ≤ z) : ∀ x, x ∈ R2 → x.1.size ≤ z := by
  rcases h with ⟨-, rfl⟩ | ⟨c0, c1, -, -, -, -, -, h2, -⟩
  · exact hz
  · intro x hx
    rcases h2 x hx with e | ⟨e, -⟩
    · rw [e]; exact hk
    · exact hz x e
end Go.Proofs.Ytkehknokfenioaa
