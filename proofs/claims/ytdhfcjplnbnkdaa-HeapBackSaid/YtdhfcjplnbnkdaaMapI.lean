/- Maps of one's own keyed by int: what they hold by the number; delete while ranging; len. No program in sight. -/
import Derived.Test.YtdhfcjplnbnkdaaMapR
import Derived.Maps.OwnSet
set_option linter.unusedVariables false
set_option linter.unusedSimpArgs false
namespace Go.Proofs.Ytdhfcjplnbnkdaa
open Go.RowKit Go.Maps Go.ChangeMaps Go.MapKept

def keyI (f : Int → Option Value) : Lit → Option Value
  | .int .i64 x => f x
  | _ => none
theorem keyI_at (f : Int → Option Value) (x : Int) : keyI f (.int .i64 x) = f x := rfl
theorem keyI_put (f : Int → Option Value) (x : Int) (v : Value) : fput (keyI f) (.int .i64 x) v = keyI (fun y => if y = x then some v else f y) := by
  funext kl
  unfold fput
  cases kl with
  | int q y =>
    cases q <;> simp [Lit.sameKey, keyI]
  | _ => simp [Lit.sameKey, keyI]
theorem keyI_del (f : Int → Option Value) (x : Int) : fdel (keyI f) (.int .i64 x) = keyI (fun y => if y = x then none else f y) := by
  funext kl
  unfold fdel
  cases kl with
  | int q y =>
    cases q <;> simp [Lit.sameKey, keyI]
  | _ => simp [Lit.sameKey, keyI]
theorem Mp.congr {w : World} {P : Program} {k : TypeId} {b n : Nat} {f g : Lit → Option Value} (h : Mp w P k b n f) (e : f = g) : Mp w P k b n g := e ▸ h
theorem nodup_len_le {α : Type} : ∀ (l m : List α), l.Nodup → (∀ x ∈ l, x ∈ m) → l.length ≤ m.length
  | [], m, _, _ => Nat.zero_le _
  | a :: l, m, hn, h => by
    obtain ⟨s, t, rfl⟩ := List.append_of_mem (h a List.mem_cons_self)
    rw [List.nodup_cons] at hn
    have := nodup_len_le l (s ++ t) hn.2 (fun x hx => by
      have h1 := h x (List.mem_cons_of_mem _ hx)
      rw [List.mem_append, List.mem_cons] at h1
      rw [List.mem_append]
      rcases h1 with h1 | h1 | h1
      · exact .inl h1
      · subst h1; exact absurd hx hn.1
      · exact .inr h1)
    simp only [List.length_append, List.length_cons] at this ⊢
    omega
/-- len: as many as a list that names each key once. -/
theorem Mp.len {w : World} {P : Program} {k : TypeId} {b n : Nat} {f : Int → Option Value} (h : Mp w P k b n (keyI f)) (K : Keyed P k) {t e : TypeId} (ht : P.underlying t = some (.map k e)) (ty : TypeId) (L : List Int) (hn : L.Nodup) (hL : ∀ x, x ∈ L ↔ (f x).isSome = true) :
    (Builtin.len_ #[t] ty #[.map (some b)]).run P w = .ok (.int .i64 L.length) w := by
  obtain ⟨D, h1, h2, h3⟩ := h
  have hr := h1.len ht ty
  obtain ⟨es, rfl, hd, hk⟩ := h1.entries K
  have hm : ∀ x, x ∈ es.map (·.1) ↔ x ∈ L.map (Lit.int .i64) := fun x => by
    constructor
    · intro hx
      obtain ⟨p, hp, rfl⟩ := List.mem_map.1 hx
      have hkl := hk p hp
      have := (h3 p.1 hkl).1
      have ha : Maps.has (DataW.map es) p.1 = true := List.any_eq_true.2 ⟨p, hp, WideAt.sameKey_self hkl⟩
      rw [ha] at this
      obtain ⟨pl, pd⟩ := p
      cases pl with
      | int q y =>
        cases q with
        | i64 => exact List.mem_map.2 ⟨y, (hL y).2 this.symm, rfl⟩
        | _ => cases this
      | _ => cases this
    · intro hx
      obtain ⟨y, hy, rfl⟩ := List.mem_map.1 hx
      have h5 := (h3 (.int .i64 y) trivial).1
      have h6 : (keyI f (.int .i64 y)).isSome = true := (hL y).1 hy
      rw [h6] at h5
      obtain ⟨p, hp, hs⟩ := List.any_eq_true.1 h5
      exact List.mem_map.2 ⟨p, hp, WideAt.sameKey_eq hs⟩
  have n1 : (es.map (·.1)).Nodup := by
    rw [List.nodup_iff_pairwise_ne, List.pairwise_map]
    exact hd
  have n2 : (L.map (Lit.int .i64)).Nodup := by
    rw [List.nodup_iff_pairwise_ne, List.pairwise_map]
    exact (List.nodup_iff_pairwise_ne.1 hn).imp fun hne e => hne (by injection e)
  have l1 := nodup_len_le _ _ n1 (fun x hx => (hm x).1 hx)
  have l2 := nodup_len_le _ _ n2 (fun x hx => (hm x).2 hx)
  simp only [List.length_map] at l1 l2
  have : Maps.size (DataW.map es) = es.length := rfl
  rw [hr, this, show es.length = L.length by omega]
section
variable {P : Program} (w : World) {ops : Array Oper} {rest : List Oper} {o : Oper} {a : Act} {Q : Exit → Act → World → Prop}
theorem wpList_mpr_delete (hg : o.guard = none) (m x : Operand) (t k : TypeId) (hop : o.op = Op.call { callee := Callee.builtin Builtin.delete, args := #[m, x], argTypes := #[t, k] })
    (e : TypeId) (K : Keyed P k) (ht : P.underlying t = some (.map k e)) (b r n : Nat) (f : Lit → Option Value) (left : Lit → Bool) (cnt : Nat)
    (hm : a.eval m = .map (some b)) (h : MpR w P k b r n f left cnt) (key : Value) (kl : Lit) (hx : a.eval x = key) (hkey : keyOf P k key = some kl)
    (hK : ∀ w' cnt', MpR w' P k b r n (fdel f kl) (fun z => left z && !z.sameKey kl) cnt' → cnt' ≤ cnt → w.grownBy w' (some b) → wpList P ops Q rest (a.put o.dst (.tuple #[])) w') :
    wpList P ops Q (o :: rest) a w := by
  obtain ⟨D, h, d⟩ := h
  exact wpList_delete_ranges w hg m x t k hop e K ht anyElem b r n D left cnt hm h key kl hx hkey fun w' cnt' h1 h2 h3 => hK w' cnt' ⟨D.del kl, h1, d.del (K.key hkey)⟩ h2 h3.grown
end
end Go.Proofs.Ytdhfcjplnbnkdaa
