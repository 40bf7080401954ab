/- Pages that are alike but for one cell. -/
import Derived.Test.YtmjgakbaalbmfaaPgBack
set_option linter.unusedVariables false
set_option linter.unusedSimpArgs false
namespace Go.Proofs.Ytmjgakbaalbmfaa
open Go.RowKit

def Pg.with (p : Pg) (I : Nat) (c : Ce) : Pg := { p with c := fun j => if j = I then c else p.c j }
theorem with_upTo (p : Pg) (I : Nat) (c : Ce) : ∀ j, j ≤ I → (p.with I c).upTo j = p.upTo j
  | 0, _ => rfl
  | j + 1, hj => by
    show (p.with I c).upTo j ++ ((p.with I c).c j).bytes = p.upTo j ++ (p.c j).bytes
    rw [with_upTo p I c j (by omega)]
    have : (p.with I c).c j = p.c j := by show (if j = I then c else p.c j) = _; rw [if_neg (by omega)]
    rw [this]
theorem cut_front (p : Pg) (I : Nat) (c : Ce) (hI : I < 6) (hp : p.ok) (hq : (p.with I c).ok) : p.bytes.extract 0 (8 + 36 * I) = (p.with I c).bytes.extract 0 (8 + 36 * I) := by
  have h1 := Pg.cut p hp.2 6 I (by omega) (by omega)
  have h2 := Pg.cut (p.with I c) hq.2 6 I (by omega) (by omega)
  rw [with_upTo p I c I (Nat.le_refl _)] at h2
  exact h1.trans h2.symm
theorem cut_back (s t : ByteArray) (hs : s.size = 224) (ht : t.size = 224) (I : Nat) (h : ∀ i, I ≤ i → i < 6 → cellAt s i = cellAt t i) : ∀ k j, j + k = 6 → I ≤ j → s.extract (8 + 36 * j) 224 = t.extract (8 + 36 * j) 224
  | 0, j, hj, _ => by
    obtain rfl : j = 6 := by omega
    apply ByteArray.ext
    apply Array.ext'
    have h1 := ex_size s (8 + 36 * 6) 224 (by omega)
    have h2 := ex_size t (8 + 36 * 6) 224 (by omega)
    have e1 : (s.extract (8 + 36 * 6) 224).data.toList.length = 0 := h1
    have e2 : (t.extract (8 + 36 * 6) 224).data.toList.length = 0 := h2
    rw [List.length_eq_zero_iff.1 e1, List.length_eq_zero_iff.1 e2]
  | k + 1, j, hj, hI => by
    have ih := cut_back s t hs ht I h k (j + 1) (by omega) (by omega)
    have e1 : ∀ x : ByteArray, cellAt x j ++ x.extract (8 + 36 * (j + 1)) 224 = x.extract (8 + 36 * j) 224 := fun x => by
      unfold cellAt
      rw [show 8 + 36 * (j + 1) = 44 + 36 * j by omega, ex_app _ _ _ _ (by omega) (by omega)]
    rw [← e1 s, ← e1 t, h j hI (by omega), ih]
theorem cut_rest (p : Pg) (I : Nat) (c : Ce) (hI : I < 6) (hp : p.ok) (hq : (p.with I c).ok) : p.bytes.extract (44 + 36 * I) 224 = (p.with I c).bytes.extract (44 + 36 * I) 224 := by
  have h := cut_back p.bytes (p.with I c).bytes (bytes_size p hp) (bytes_size _ hq) (I + 1) (fun i h1 h2 => by
    rw [Pg.cellAt_bytes p hp.2 i h2, Pg.cellAt_bytes _ hq.2 i h2]
    have : (p.with I c).c i = p.c i := by show (if i = I then c else p.c i) = _; rw [if_neg (by omega)]
    rw [this]) (5 - I) (I + 1) (by omega) (by omega)
  rw [show 44 + 36 * I = 8 + 36 * (I + 1) by omega]
  exact h
theorem same_bytes (p q : Pg) (hp : p.ok) (hq : q.ok) : (p.bytes.toList == q.bytes.toList) = pgB p q := by
  by_cases h : p.bytes = q.bytes
  · rw [str_eq_ h]
    have a := Pg.of_bytes p hp
    have b := Pg.of_bytes q hq
    rw [h] at a
    exact ((pgB_iff p q).2 ⟨a.1.symm.trans b.1, a.2.1.symm.trans b.2.1, a.2.2.1.symm.trans b.2.2.1, a.2.2.2.1.symm.trans b.2.2.2.1, fun i hi => (a.2.2.2.2 i hi).symm.trans (b.2.2.2.2 i hi)⟩).symm
  · rw [str_ne h]
    cases hb : pgB p q
    · rfl
    · exact absurd (Pg.upTo_same ((pgB_iff p q).1 hb) 6 (by omega)) h
theorem with_cs (p : Pg) (I : Nat) (c : Ce) (hI : I < 6) : (p.cs.setIfInBounds (4 + I * 2) (.int .i64 c.st)).setIfInBounds (4 + I * 2 + 1) (.string c.d) = (p.with I c).cs := by
  have h1 : ∀ i, (p.with I c).c i = if i = I then c else p.c i := fun i => rfl
  have k1 : (p.with I c).k = p.k ∧ (p.with I c).l = p.l ∧ (p.with I c).s = p.s ∧ (p.with I c).n = p.n := ⟨rfl, rfl, rfl, rfl⟩
  unfold Pg.cs
  rw [k1.1, k1.2.1, k1.2.2.1, k1.2.2.2]
  simp only [h1]
  rcases six hI with rfl | rfl | rfl | rfl | rfl | rfl <;> simp
theorem sec_spell6 (at_ : Int) : ∃ a : Nat, a < 6 ∧ (wrap64 (at_.tmod 6 + 6)).tmod 6 = (a : Int) := by
  have h1 := Int.tmod_lt_of_pos at_ (show (0 : Int) < 6 by omega)
  have h2 := Int.lt_tmod_of_pos at_ (show (0 : Int) < 6 by omega)
  have h3 : wrap64 (at_.tmod 6 + 6) = at_.tmod 6 + 6 := by unfold wrap64; omega
  rw [h3, Int.tmod_eq_emod_of_nonneg (by omega)]
  exact ⟨((at_.tmod 6 + 6) % 6).toNat, by omega, by omega⟩
end Go.Proofs.Ytmjgakbaalbmfaa
