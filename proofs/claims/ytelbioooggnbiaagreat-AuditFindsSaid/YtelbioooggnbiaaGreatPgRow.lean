/- A block of pages, one behind the other: loaded, stored. -/
import Derived.Test.YtelbioooggnbiaaGreatPgPlain
import Derived.Test.YtelbioooggnbiaaGreatProg
import Derived.Deep.MidRow
set_option linter.unusedVariables false
set_option linter.unusedSimpArgs false
namespace Go.Proofs.YtelbioooggnbiaaGreat
open Go.RowKit

def flatPg (ps : List Pg) : List Value := ps.flatMap fun p => p.cs.toList
theorem pg_len (p : Pg) : p.cs.toList.length = 16 := rfl
theorem flat_len : ∀ ps : List Pg, (flatPg ps).length = ps.length * 16
  | [] => rfl
  | p :: ps => by
    have := flat_len ps
    show (p.cs.toList ++ flatPg ps).length = (ps.length + 1) * 16
    rw [List.length_append, pg_len, this]; omega
theorem flat_get : ∀ (ps : List Pg) (i : Nat) (p : Pg), ps[i]? = some p → ∀ j, j < 16 → (flatPg ps)[i * 16 + j]? = p.cs[j]?
  | [], i, p, h, j, hj => by simp at h
  | q :: ps, 0, p, h, j, hj => by
    simp at h
    subst h
    show (q.cs.toList ++ flatPg ps)[0 * 16 + j]? = _
    rw [Nat.zero_mul, Nat.zero_add, List.getElem?_append_left (by rw [pg_len]; exact hj)]
    simp
  | q :: ps, i + 1, p, h, j, hj => by
    have := flat_get ps i p (by simpa using h) j hj
    show (q.cs.toList ++ flatPg ps)[(i + 1) * 16 + j]? = _
    rw [List.getElem?_append_right (by rw [pg_len]; omega), pg_len, show (i + 1) * 16 + j - 16 = i * 16 + j by omega]
    exact this
/-- Cells laid over others, from a place on. -/
def lay (cs : Array Value) : Nat → List Value → Array Value
  | _, [] => cs
  | o, v :: vs => lay (cs.setIfInBounds o v) (o + 1) vs
theorem lay_size : ∀ (vs : List Value) (cs : Array Value) (o : Nat), (lay cs o vs).size = cs.size
  | [], cs, o => rfl
  | v :: vs, cs, o => by show (lay (cs.setIfInBounds o v) (o + 1) vs).size = _; rw [lay_size vs]; simp
theorem lay_get : ∀ (vs : List Value) (cs : Array Value) (o j : Nat), o + vs.length ≤ cs.size → (lay cs o vs)[j]? = if o ≤ j ∧ j < o + vs.length then vs[j - o]? else cs[j]?
  | [], cs, o, j, h => by
    rw [if_neg (fun h => by have := h.2; rw [List.length_nil] at this; omega)]; rfl
  | v :: vs, cs, o, j, h => by
    rw [List.length_cons] at h
    show (lay (cs.setIfInBounds o v) (o + 1) vs)[j]? = _
    rw [lay_get vs _ (o + 1) j (by simp; omega), List.length_cons]
    by_cases h1 : o + 1 ≤ j ∧ j < o + 1 + vs.length
    · rw [if_pos h1, if_pos ⟨by omega, by omega⟩, show j - o = (j - (o + 1)) + 1 by omega, List.getElem?_cons_succ]
    · rw [if_neg h1]
      by_cases h2 : j = o
      · subst h2
        rw [if_pos ⟨Nat.le_refl _, by omega⟩, Nat.sub_self, Array.getElem?_setIfInBounds_self_of_lt (by omega)]
        rfl
      · rw [if_neg (by omega), Array.getElem?_setIfInBounds_ne (by omega)]
theorem Bk.lays {g : Nat} {t : TypeId} : ∀ (vs : List Value) (w : World) (cs : Array Value) (o : Nat), Bk w g t cs → Bk (w.setCells g o vs) g t (lay cs o vs)
  | [], w, cs, o, h => h
  | v :: vs, w, cs, o, h => Bk.lays vs _ _ (o + 1) (h.set o v)
theorem setCells_other (g k : Nat) : ∀ (vs : List Value) (w : World) (o : Nat), k ≠ g → (w.setCells g o vs).heap[k]? = w.heap[k]?
  | [], w, o, h => rfl
  | v :: vs, w, o, h => (setCells_other g k vs _ (o + 1) h).trans (Below.heap_setCell w ⟨g, o, none⟩ v k h)
theorem setCells_size (g : Nat) : ∀ (vs : List Value) (w : World) (o : Nat), (w.setCells g o vs).heap.size = w.heap.size ∧ (w.setCells g o vs).os = w.os ∧ (w.setCells g o vs).tape = w.tape ∧ (w.setCells g o vs).output = w.output
  | [], w, o => ⟨rfl, rfl, rfl, rfl⟩
  | v :: vs, w, o => by
    obtain ⟨a, b, c, d⟩ := setCells_size g vs (w.setCell ⟨g, o, none⟩ v) (o + 1)
    exact ⟨a.trans (by simp [World.setCell]), b, c, d⟩
/-- Only block g turns. -/
theorem setCells_only (w : World) (g o : Nat) (vs : List Value) : w.grownBy (w.setCells g o vs) (some g) := by
  obtain ⟨a, b, c, d⟩ := setCells_size g vs w o
  exact ⟨b, c, d, Nat.le_of_eq a.symm, fun k _ hk => setCells_other g k vs w o (fun e => hk (by rw [e]))⟩
/-- Block g is these pages. -/
def PRow (w : World) (g : Nat) (ps : List Pg) : Prop := Bk w g 38 (flatPg ps).toArray
theorem flat_set (ps : List Pg) (i : Nat) (p : Pg) (hi : i < ps.length) : lay (flatPg ps).toArray (i * 16) p.cs.toList = (flatPg (ps.set i p)).toArray := by
  have hl := flat_len ps
  apply Array.ext_getElem?
  intro j
  rw [lay_get _ _ _ _ (by rw [pg_len]; simp; omega), pg_len]
  have hl2 := flat_len (ps.set i p)
  rw [List.length_set] at hl2
  by_cases hj : j < ps.length * 16
  · obtain ⟨q, r, hr, rfl⟩ : ∃ q r, r < 16 ∧ j = q * 16 + r := ⟨j / 16, j % 16, Nat.mod_lt _ (by omega), by omega⟩
    have hq : q < ps.length := by omega
    by_cases hqi : q = i
    · subst hqi
      rw [if_pos ⟨by omega, by omega⟩, List.getElem?_toArray, flat_get (ps.set q p) q p (by rw [List.getElem?_set_self hq]) r hr, show q * 16 + r - q * 16 = r by omega]
      simp
    · rw [if_neg (by omega), List.getElem?_toArray, List.getElem?_toArray, flat_get ps q _ (List.getElem?_eq_getElem hq) r hr, flat_get (ps.set i p) q ps[q] (by rw [List.getElem?_set_ne (Ne.symm hqi), List.getElem?_eq_getElem hq]) r hr]
  · rw [if_neg (by omega), Array.getElem?_eq_none (by simp; omega), Array.getElem?_eq_none (by simp; omega)]
namespace PRow
variable {w w' : World} {g : Nat} {ps : List Pg}
theorem lt (h : PRow w g ps) : g < w.heap.size := Bk.lt h
theorem kept (h : PRow w g ps) (hb : Below w.heap.size w w') : PRow w' g ps := Bk.kept h hb
theorem of_block (h : PRow w g ps) (hb : w'.heap[g]? = w.heap[g]?) : PRow w' g ps := hb.trans h
theorem range (h : PRow w g ps) {i : Nat} {p : Pg} (hi : ps[i]? = some p) : w.rangeAt g (i * 16) p.cs.toList := fun j v hv => by
  have hj : j < 16 := by have := (List.getElem?_eq_some_iff.1 hv).1; rwa [pg_len] at this
  rw [Bk.cell h, List.getElem?_toArray, flat_get ps i p hi j hj]
  simpa using hv
theorem there (h : PRow w g ps) {i : Nat} (hi : i < ps.length) : w.there g (i * 16) 16 := fun j hj => by
  refine ⟨?_, Bk.fz h _⟩
  rw [Bk.cell h, List.getElem?_toArray, flat_get ps i _ (List.getElem?_eq_getElem hi) j hj, Array.getElem?_eq_getElem (show j < (ps[i]).cs.size from hj)]
  rfl
theorem set (h : PRow w g ps) (i : Nat) (p : Pg) (hi : i < ps.length) : PRow (w.setCells g (i * 16) p.cs.toList) g (ps.set i p) := by
  have := Bk.lays p.cs.toList w _ (i * 16) h
  unfold PRow
  rw [← flat_set ps i p hi]
  exact this
end PRow
section
variable {ops : Array Oper} {rest : List Oper} {o : Oper} {a : Act} {w : World} {Q : Exit → Act → World → Prop}
theorem load_page_at (hgd : o.guard = none) (x : Operand) (ho : o.op = .load 38 x) (g : Nat) (ps : List Pg) (i : Nat) (p : Pg) (hi : ps[i]? = some p) (hx : a.eval x = .pointer (some ⟨g, i * 16, none⟩)) (hr : PRow w g ps)
    (h : wpList Tryz.prog ops Q rest (a.put o.dst (.agg p.cs)) w) : wpList Tryz.prog ops Q (o :: rest) a w :=
  wpList_load_mid hgd 38 x ho g (i * 16) hx p.cs.toList _ (hr.range hi) Tryz.underlying38 rfl (by rw [pg_len]; kernel_rfl) (by simpa using h)
theorem store_page_at (hgd : o.guard = none) (x y : Operand) (ho : o.op = .store 38 x y) (g : Nat) (ps : List Pg) (i : Nat) (p : Pg) (hi : i < ps.length) (hx : a.eval x = .pointer (some ⟨g, i * 16, none⟩)) (hy : a.eval y = .agg p.cs) (hr : PRow w g ps)
    (h : PRow (w.setCells g (i * 16) p.cs.toList) g (ps.set i p) → wpList Tryz.prog ops Q rest (a.put o.dst undef) (w.setCells g (i * 16) p.cs.toList)) : wpList Tryz.prog ops Q (o :: rest) a w :=
  wpList_store_mid hgd 38 x y ho g (i * 16) p.cs hx hy (hr.there hi) (by rw [show p.cs.size = 16 from rfl]; kernel_rfl) (by unfold Pg.cs; simp [Value.oneCell']) (h (hr.set i p hi))
end
end Go.Proofs.YtelbioooggnbiaaGreat
