/- What a stage's images make of the shelf below: plain facts. -/
import Derived.Test.YtelbioooggnbiaaGreatStgSS
set_option linter.unusedVariables false
set_option linter.unusedSimpArgs false
namespace Go.Proofs.YtelbioooggnbiaaGreat
open Go.RowKit Go.Maps

theorem getPg_in {ps : List Pg} {k : Nat} (h : k < ps.length) : getPg ps k = (ps.getD k Pg.zero, 0) := by
  unfold getPg
  rw [if_pos ⟨by omega, by omega⟩, Int.toNat_natCast]
theorem ssGet_in {ps : List Pg} {l : List Im} {k : Nat} (h : k < ps.length) : ssGet ps l k = ((ssGet ps l k).1, 0) := by
  unfold ssGet stGet
  rw [getPg_in h]
  split <;> rfl
theorem errL_in {ps : List Pg} {l : List Im} (h : ∀ i ∈ l, 0 ≤ i.id ∧ i.id < ps.length) : errL (getPg ps) l = 0 := errL_none fun i hi => by
  have := h i hi
  obtain ⟨k, hk⟩ : ∃ k : Nat, i.id = k := ⟨i.id.toNat, by omega⟩
  rw [hk, getPg_in (by omega)]
theorem setL_mem {l : List Im} {id : Int} {p : Pg} {i : Im} (h : i ∈ setL l id p) : (i = ⟨id, p⟩ ∧ sok id p) ∨ i ∈ l := by
  unfold setL at h
  split at h
  · rcases ins_mem h with h | h
    · exact .inl ⟨h, by assumption⟩
    · exact .inr h
  · exact .inr h
theorem putAll_get : ∀ (l : List Im) (ps : List Pg) (k : Nat), (∀ i ∈ l, 0 ≤ i.id ∧ i.id < ps.length) → Rising l → k < ps.length → (putAll ps l)[k]? = some ((look l k).getD (ps.getD k Pg.zero))
  | [], ps, k, _, _, hk => by
    show ps[k]? = some (Option.getD (none : Option Pg) _)
    rw [List.getD_eq_getElem?_getD, List.getElem?_eq_getElem hk]
    rfl
  | i :: l, ps, k, h, hr, hk => by
    have hr2 := Rising.cons.1 hr
    have h0 := h i List.mem_cons_self
    show (putAll (ps.set i.id.toNat i.p) l)[k]? = _
    rw [putAll_get l _ k (fun j hj => by rw [List.length_set]; exact h j (List.mem_cons_of_mem _ hj)) hr2.2 (by rw [List.length_set]; exact hk), look_cons]
    by_cases e : i.id = (k : Int)
    · rw [if_pos e]
      have : look l k = none := by
        unfold look
        rw [List.find?_eq_none.2 fun j hj => by have := hr2.1 j hj; simp; omega]
        rfl
      rw [this]
      have e2 : i.id.toNat = k := by omega
      rw [e2, List.getD_eq_getElem?_getD, List.getElem?_set_self hk]
      rfl
    · rw [if_neg e]
      rw [List.getD_eq_getElem?_getD, List.getElem?_set_ne (by omega), ← List.getD_eq_getElem?_getD]
theorem outL_mem {src : Int → Pg × Int} {l : List Im} {i : Im} (h : i ∈ outL src l) : i ∈ l := (List.mem_filter.1 h).1
theorem outL_rising {src : Int → Pg × Int} {l : List Im} (h : Rising l) : Rising (outL src l) := by
  unfold Rising ids at h ⊢
  exact h.sublist (List.filter_sublist.map _)
theorem look_some_iff {l : List Im} (hr : Rising l) {k : Int} {p : Pg} : look l k = some p ↔ (⟨k, p⟩ : Im) ∈ l := by
  constructor
  · intro h
    unfold look at h
    rw [Option.map_eq_some_iff] at h
    obtain ⟨i, hi, rfl⟩ := h
    have h1 := List.find?_some hi
    have h2 := List.mem_of_find?_eq_some hi
    simp at h1
    rw [← h1]
    exact h2
  · intro h
    exact look_mem hr h
/-- What lands is what was staged. -/
theorem lands {ps : List Pg} {l : List Im} (hr : Rising l) (h : ∀ i ∈ l, 0 ≤ i.id ∧ i.id < ps.length) {k : Nat} (hk : k < ps.length) :
    ∃ p, (putAll ps (outL (getPg ps) l))[k]? = some p ∧ pgB p (ssGet ps l k).1 = true ∧ ∀ q, look l k = some q → pgB p q = true := by
  have h1 := putAll_get (outL (getPg ps) l) ps k (fun i hi => h i (outL_mem hi)) (outL_rising hr) hk
  refine ⟨_, h1, ?_⟩
  have key : ∀ q, look l k = some q → pgB ((look (outL (getPg ps) l) k).getD (ps.getD k Pg.zero)) q = true := by
    intro q hq
    have hm := (look_some_iff hr).1 hq
    by_cases hB : pgB (ps.getD k Pg.zero) q = true
    · have hn : look (outL (getPg ps) l) k = none := by
        cases ho : look (outL (getPg ps) l) k with
        | none => rfl
        | some q2 =>
          exfalso
          have h3 := (look_some_iff (outL_rising hr)).1 ho
          have h4 := (List.mem_filter.1 h3).2
          have h5 : q2 = q := by
            have := (look_some_iff hr).2 (outL_mem h3)
            rw [hq] at this
            exact (Option.some.inj this).symm
          rw [h5] at h4
          dsimp only at h4
          rw [getPg_in hk, hB] at h4
          cases h4
      rw [hn]
      exact hB
    · have hm2 : (⟨k, q⟩ : Im) ∈ outL (getPg ps) l := List.mem_filter.2 ⟨hm, by dsimp only; rw [getPg_in hk, show pgB (ps.getD k Pg.zero, (0 : Int)).1 q = false from by simpa using hB]; rfl⟩
      rw [look_mem (outL_rising hr) hm2]
      exact pgB_self q
  refine ⟨?_, key⟩
  unfold ssGet stGet
  cases hq : look l k with
  | some q => exact key q hq
  | none =>
    have hn : look (outL (getPg ps) l) k = none := by
      cases ho : look (outL (getPg ps) l) k with
      | none => rfl
      | some q2 =>
        have := (look_some_iff hr).2 (outL_mem ((look_some_iff (outL_rising hr)).1 ho))
        rw [hq] at this; cases this
    rw [hn, getPg_in hk]
    exact pgB_self _
theorem fit_out {ps : List Pg} {l : List Im} (h : ∀ i ∈ l, (0 ≤ i.id ∧ i.id < ps.length) ∧ i.p.ok) : fit ps.length (outL (getPg ps) l) := fun i hi => ⟨(h i (outL_mem hi)).1, (h i (outL_mem hi)).2⟩
end Go.Proofs.YtelbioooggnbiaaGreat
