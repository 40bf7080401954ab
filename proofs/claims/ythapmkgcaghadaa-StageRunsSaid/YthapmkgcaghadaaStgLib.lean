/- Rows of pages of one's own, loads, and what a stage gives: for the laws. -/
import Derived.Test.YthapmkgcaghadaaStgAwake
import Derived.Test.YthapmkgcaghadaaImRead
set_option linter.unusedVariables false
set_option linter.unusedSimpArgs false
namespace Go.Proofs.Ythapmkgcaghadaa
open Go.RowKit Go.Maps

def POwn (w : World) (base : Nat) (v : Value) (l : List Pg) : Prop := w.ownsRow base 42 16 v l.length (flatPg l)
theorem flatPg_app (l : List Pg) (i : Pg) : flatPg (l ++ [i]) = flatPg l ++ i.cs.toList := by unfold flatPg; simp
theorem POwn.range {w : World} {base g c : Nat} {l : List Pg} {n : Nat} (h : POwn w base (.slice (some ⟨g, 0, none⟩) n c) l) {i : Nat} {p : Pg} (hi : l[i]? = some p) : w.rangeAt g (i * 16) p.cs.toList := fun j v hv => by
  have hj : j < 16 := by have := (List.getElem?_eq_some_iff.1 hv).1; rwa [pg_len] at this
  have := World.ownsRow.cells h (g := g) rfl (i * 16 + j) v (by rw [flat_get l i p hi j hj]; simpa using hv)
  rw [Addr.add_lit, Nat.zero_add] at this
  exact this
theorem POwn.form {w : World} {base : Nat} {v : Value} {l : List Pg} (h : POwn w base v l) (hn : 0 < l.length) : ∃ g cap, v = .slice (some ⟨g, 0, none⟩) l.length cap ∧ base ≤ g ∧ g < w.heap.size := ow_form h hn
theorem IOwn.lit (w : World) (i : Im) {base : Nat} (hb : base ≤ w.heap.size) : IOwn (w.alloc (.cells i.cs 59)) base (.slice (some ⟨w.heap.size, 0, none⟩) 1 1) [i] := by
  have := World.ownsRow_lit (base := base) (size := 17) (e := 59) w i.cs 1 hb (by decide) (by rfl)
  have e : flatIm [i] = i.cs.toList := by unfold flatIm; simp
  unfold IOwn
  rw [e]
  exact this
section
variable {ops : Array Oper} {rest : List Oper} {o : Oper} {a : Act} {w : World}
theorem slice1_pg {Q : Exit → Act → World → Prop} (hg : o.guard = none) (x : Operand) (ho : o.op = .buildSlice 29 1 #[(0, x)]) (i : Pg)
    (hx : a.eval x = .agg i.cs) (h : wpList Try.prog ops Q rest (a.put o.dst (.slice (some ⟨w.heap.size, 0, none⟩) 1 1)) (w.alloc (.cells i.cs 42))) : wpList Try.prog ops Q (o :: rest) a w := by
  obtain ⟨i0, hi0, hz0, hz1, hz2⟩ := info_parts Try.info42
  refine wpList_buildSlice hg 29 42 1 #[(0, x)] ho i.cs i0 _ Try.underlying29 hi0 hz0 (by rw [hz1]; decide) (by rw [hz1]; decide) ?_ h
  rw [hz1]
  simp only [List.map_toArray, List.map_cons, List.map_nil, hx]
  kernel_rfl
theorem load_im_blk {Q : Exit → Act → World → Prop} (hgd : o.guard = none) (x : Operand) (ho : o.op = .load 59 x) (g : Nat) (i : Im) (hx : a.eval x = .pointer (some ⟨g, 0, none⟩)) (hb : Bk w g 59 i.cs)
    (h : wpList Try.prog ops Q rest (a.put o.dst (.agg i.cs)) w) : wpList Try.prog ops Q (o :: rest) a w :=
  wpList_load_row hgd 59 x ho g hx 59 i.cs (0, 0) _ hb Try.underlying59 rfl (by rw [show i.cs.size = 17 from rfl]; kernel_rfl) h
theorem still_page_w {Q : Act → Prop} (x : Operand) (ho : o.op = .load 42 x) (hw : Region.wanted o (yielded ops a.tmps) = true) (g : Nat) (p : Pg) (hx : a.eval x = .pointer (some ⟨g, 0, none⟩)) (hb : Bk w g 42 p.cs)
    (h : wpStill Try.prog ops w Q rest (a.put o.dst (.agg p.cs))) : wpStill Try.prog ops w Q (o :: rest) a := by
  refine wpStill_step fun K hK => ?_
  rw [if_pos hw]
  unfold Oper.still execOp
  simp only [ho, hx, Instr.loadAt, Instr.sureAddr, Sem.run_bind, Sem.run_pure, Result.andThen_ok, run_loadPage w g p.cs hb rfl]
  exact ⟨rfl, hK _ h⟩
theorem still_page_at_w {Q : Act → Prop} (x : Operand) (ho : o.op = .load 42 x) (hw : Region.wanted o (yielded ops a.tmps) = true) (g off : Nat) (p : Pg) (hx : a.eval x = .pointer (some ⟨g, off, none⟩)) (hb : w.rangeAt g off p.cs.toList)
    (h : wpStill Try.prog ops w Q rest (a.put o.dst (.agg p.cs))) : wpStill Try.prog ops w Q (o :: rest) a := by
  refine wpStill_step fun K hK => ?_
  rw [if_pos hw]
  unfold Oper.still execOp
  simp only [ho, hx, Instr.loadAt, Instr.sureAddr, Sem.run_bind, Sem.run_pure, Result.andThen_ok, run_loadVar_mid w g off 42 p.cs.toList _ hb Try.underlying42 rfl (by rw [pg_len]; kernel_rfl), Array.toArray_toList]
  exact ⟨rfl, hK _ h⟩
end
theorem getPg_in {ps : List Pg} {k : Nat} (h : k < ps.length) : getPg ps k = (ps.getD k Pg.zero, 0) := by
  unfold getPg
  rw [if_pos ⟨by omega, by omega⟩, Int.toNat_natCast]
theorem ssGet_in {ps : List Pg} {l : List Im} {k : Nat} (h : k < ps.length) : ssGet ps l k = ((ssGet ps l k).1, 0) := by
  unfold ssGet stGet
  rw [getPg_in h]
  split <;> rfl
theorem errL_in {ps : List Pg} {l : List Im} (h : ∀ i ∈ l, 0 ≤ i.id ∧ i.id < ps.length) : errL (getPg ps) l = 0 := errL_none fun i hi => by
  have := h i hi
  obtain ⟨k, hk⟩ : ∃ k : Nat, i.id = k := ⟨i.id.toNat, by omega⟩
  rw [hk, getPg_in (by omega)]
theorem setL_mem {l : List Im} {id : Int} {p : Pg} {i : Im} (h : i ∈ setL l id p) : (i = ⟨id, p⟩ ∧ sok id p) ∨ i ∈ l := by
  unfold setL at h
  split at h
  · rcases ins_mem h with h | h
    · exact .inl ⟨h, by assumption⟩
    · exact .inr h
  · exact .inr h
theorem putAll_get : ∀ (l : List Im) (ps : List Pg) (k : Nat), (∀ i ∈ l, 0 ≤ i.id ∧ i.id < ps.length) → Rising l → k < ps.length → (putAll ps l)[k]? = some ((look l k).getD (ps.getD k Pg.zero))
  | [], ps, k, _, _, hk => by
    show ps[k]? = some (Option.getD (none : Option Pg) _)
    rw [List.getD_eq_getElem?_getD, List.getElem?_eq_getElem hk]
    rfl
  | i :: l, ps, k, h, hr, hk => by
    have hr2 := Rising.cons.1 hr
    have h0 := h i List.mem_cons_self
    show (putAll (ps.set i.id.toNat i.p) l)[k]? = _
    rw [putAll_get l _ k (fun j hj => by rw [List.length_set]; exact h j (List.mem_cons_of_mem _ hj)) hr2.2 (by rw [List.length_set]; exact hk), look_cons]
    by_cases e : i.id = (k : Int)
    · rw [if_pos e]
      have : look l k = none := by
        unfold look
        rw [List.find?_eq_none.2 fun j hj => by have := hr2.1 j hj; simp; omega]
        rfl
      rw [this]
      have e2 : i.id.toNat = k := by omega
      rw [e2, List.getD_eq_getElem?_getD, List.getElem?_set_self hk]
      rfl
    · rw [if_neg e]
      rw [List.getD_eq_getElem?_getD, List.getElem?_set_ne (by omega), ← List.getD_eq_getElem?_getD]
theorem outL_mem {src : Int → Pg × Int} {l : List Im} {i : Im} (h : i ∈ outL src l) : i ∈ l := (List.mem_filter.1 h).1
theorem outL_rising {src : Int → Pg × Int} {l : List Im} (h : Rising l) : Rising (outL src l) := by
  unfold Rising ids at h ⊢
  exact h.sublist (List.filter_sublist.map _)
theorem look_some_iff {l : List Im} (hr : Rising l) {k : Int} {p : Pg} : look l k = some p ↔ (⟨k, p⟩ : Im) ∈ l := by
  constructor
  · intro h
    unfold look at h
    rw [Option.map_eq_some_iff] at h
    obtain ⟨i, hi, rfl⟩ := h
    have h1 := List.find?_some hi
    have h2 := List.mem_of_find?_eq_some hi
    simp at h1
    rw [← h1]
    exact h2
  · intro h
    exact look_mem hr h
/-- What lands is what was staged. -/
theorem lands {ps : List Pg} {l : List Im} (hr : Rising l) (h : ∀ i ∈ l, 0 ≤ i.id ∧ i.id < ps.length) {k : Nat} (hk : k < ps.length) :
    ∃ p, (putAll ps (outL (getPg ps) l))[k]? = some p ∧ pgB p (ssGet ps l k).1 = true ∧ ∀ q, look l k = some q → pgB p q = true := by
  have h1 := putAll_get (outL (getPg ps) l) ps k (fun i hi => h i (outL_mem hi)) (outL_rising hr) hk
  refine ⟨_, h1, ?_⟩
  have key : ∀ q, look l k = some q → pgB ((look (outL (getPg ps) l) k).getD (ps.getD k Pg.zero)) q = true := by
    intro q hq
    have hm := (look_some_iff hr).1 hq
    by_cases hB : pgB (ps.getD k Pg.zero) q = true
    · have hn : look (outL (getPg ps) l) k = none := by
        cases ho : look (outL (getPg ps) l) k with
        | none => rfl
        | some q2 =>
          exfalso
          have h3 := (look_some_iff (outL_rising hr)).1 ho
          have h4 := (List.mem_filter.1 h3).2
          have h5 : q2 = q := by
            have := (look_some_iff hr).2 (outL_mem h3)
            rw [hq] at this
            exact (Option.some.inj this).symm
          rw [h5] at h4
          dsimp only at h4
          rw [getPg_in hk, hB] at h4
          cases h4
      rw [hn]
      exact hB
    · have hm2 : (⟨k, q⟩ : Im) ∈ outL (getPg ps) l := List.mem_filter.2 ⟨hm, by dsimp only; rw [getPg_in hk, show pgB (ps.getD k Pg.zero, (0 : Int)).1 q = false from by simpa using hB]; rfl⟩
      rw [look_mem (outL_rising hr) hm2]
      exact pgB_self q
  refine ⟨?_, key⟩
  unfold ssGet stGet
  cases hq : look l k with
  | some q => exact key q hq
  | none =>
    have hn : look (outL (getPg ps) l) k = none := by
      cases ho : look (outL (getPg ps) l) k with
      | none => rfl
      | some q2 =>
        have := (look_some_iff hr).2 (outL_mem ((look_some_iff (outL_rising hr)).1 ho))
        rw [hq] at this; cases this
    rw [hn, getPg_in hk]
    exact pgB_self _
theorem fit_out {ps : List Pg} {l : List Im} (h : ∀ i ∈ l, (0 ≤ i.id ∧ i.id < ps.length) ∧ i.p.ok) : fit ps.length (outL (getPg ps) l) := fun i hi => ⟨(h i (outL_mem hi)).1, (h i (outL_mem hi)).2⟩
end Go.Proofs.Ythapmkgcaghadaa
