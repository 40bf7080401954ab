/- Rows of elements of k cells each, wherever they lie in a block; what is kept but for a footprint. No program in sight. -/
import Derived.Test.YtelbioooggnbiaaGreatBk
import Derived.Deep.MidRow
import Derived.Deep.AppendSrc
set_option linter.unusedVariables false
set_option linter.unusedSimpArgs false
namespace Go.Proofs.YtelbioooggnbiaaGreat
open Go.RowKit

/-- Of what stood nothing has turned but what is of F. -/
structure Kpf (F : Nat → Prop) (w w' : World) : Prop where
  os : w'.os = w.os
  tape : w'.tape = w.tape
  output : w'.output = w.output
  size : w.heap.size ≤ w'.heap.size
  block : ∀ i, i < w.heap.size → ¬ F i → w'.heap[i]? = w.heap[i]?
/-- A footprint, and what has come since. -/
def Ext (F : Nat → Prop) (w w' : World) (i : Nat) : Prop := F i ∨ (w.heap.size ≤ i ∧ i < w'.heap.size)
namespace Kpf
variable {F G : Nat → Prop} {w w' w'' : World}
theorem refl (F : Nat → Prop) (w : World) : Kpf F w w := ⟨rfl, rfl, rfl, Nat.le_refl _, fun _ _ _ => rfl⟩
theorem trans (h : Kpf F w w') (k : Kpf G w' w'') (hG : ∀ i, G i → F i ∨ w.heap.size ≤ i) : Kpf F w w'' :=
  ⟨k.os.trans h.os, k.tape.trans h.tape, k.output.trans h.output, Nat.le_trans h.size k.size, fun i hi hn => (k.block i (Nat.lt_of_lt_of_le hi h.size) fun hg => by
    rcases hG i hg with h1 | h1
    · exact hn h1
    · omega).trans (h.block i hi hn)⟩
theorem then_ext (h : Kpf F w w') (k : Kpf (Ext F w w') w' w'') : Kpf F w w'' := h.trans k fun i hi => by
  rcases hi with h1 | h1
  · exact .inl h1
  · exact .inr h1.1
theorem same (h : Kpf F w w') (k : Kpf F w' w'') : Kpf F w w'' := h.trans k fun i hi => .inl hi
theorem of_below (h : Below w.heap.size w w') : Kpf F w w' := ⟨h.os, h.tape, h.output, h.size, fun i hi _ => h.block i hi⟩
theorem to_below (h : Kpf F w w') {B : Nat} (hB : B ≤ w.heap.size) (hF : ∀ i, F i → B ≤ i) : Below B w w' := ⟨h.os, h.tape, h.output, h.size, fun i hi => h.block i (by omega) fun hf => by have := hF i hf; omega⟩
theorem mono (h : Kpf F w w') (hG : ∀ i, F i → G i) : Kpf G w w' := ⟨h.os, h.tape, h.output, h.size, fun i hi hn => h.block i hi fun hf => hn (hG i hf)⟩
theorem alloc (h : Kpf F w w') (o : Obj) : Kpf F w (w'.alloc o) := h.trans (of_below (F := fun _ => False) ((Below.refl _ w').alloc (Nat.le_refl _) o)) fun i hi => hi.elim
theorem drewN (h : Kpf F w w') (n : Nat) : Kpf F w (w'.drewN n) := ⟨h.os, h.tape, h.output, h.size, h.block⟩
theorem drew (h : Kpf F w w') : Kpf F w w'.drew := ⟨h.os, h.tape, h.output, h.size, h.block⟩
theorem of_only {row : Option Nat} (h : w.grownBy w' row) (hr : ∀ k, row = some k → F k) : Kpf F w w' := ⟨h.os, h.tape, h.output, h.size, fun i hi hn => h.block i hi fun e => hn (hr i e.symm)⟩
theorem cell (h : Kpf F w w') {a : Addr} (ha : a.block < w.heap.size) (hn : ¬ F a.block) : w'.cell? a = w.cell? a := World.cell?_of_block (w := w) (h.block _ ha hn)
theorem bk (h : Kpf F w w') {g : Nat} {t : TypeId} {cs : Array Value} (hb : Bk w g t cs) (hn : ¬ F g) : Bk w' g t cs := (h.block g hb.lt hn).trans hb
theorem setCell (h : Kpf F w w') {a : Addr} (ha : F a.block ∨ w.heap.size ≤ a.block) (u : Value) : Kpf F w (w'.setCell a u) :=
  h.trans (w' := w') (G := fun i => i = a.block) ⟨rfl, rfl, rfl, by simp [World.setCell], fun i hi hn => Below.heap_setCell w' a u i hn⟩ fun i hi => by subst hi; exact ha
end Kpf
theorem ext_self {F : Nat → Prop} {w : World} {i : Nat} (h : Ext F w w i) : F i := by
  rcases h with h | h
  · exact h
  · omega
theorem ext_ext {F : Nat → Prop} {w w' w'' : World} (h1 : w.heap.size ≤ w'.heap.size) (h2 : w'.heap.size ≤ w''.heap.size) {i : Nat} (h : Ext (Ext F w w') w' w'' i) : Ext F w w'' i := by
  rcases h with (h | h) | h
  · exact .inl h
  · exact .inr (by omega)
  · exact .inr (by omega)
theorem ext_more {F : Nat → Prop} {w w' w'' : World} (h2 : w'.heap.size ≤ w''.heap.size) {i : Nat} (h : Ext F w w' i) : Ext F w w'' i := by
  rcases h with h | h
  · exact .inl h
  · exact .inr (by omega)
theorem ext_mono {F G : Nat → Prop} {w w' : World} (hG : ∀ i, F i → G i) {i : Nat} (h : Ext F w w' i) : Ext G w w' i := by
  rcases h with h | h
  · exact .inl (hG i h)
  · exact .inr h

/-- Elements of k cells each from a place on. -/
structure RkAt {α : Type} (w : World) (e : TypeId) (k : Nat) (enc : α → List Value) (b off cap : Nat) (cur : Array Value) (l : List α) : Prop where
  bk : Bk w b e cur
  le : l.length ≤ cap
  mx : cap ≤ maxLen
  sz : off + cap * k ≤ cur.size
  at_ : ∀ j (hj : j < l.length) i u, (enc l[j])[i]? = some u → cur[off + j * k + i]? = some u
def Rk {α : Type} (w : World) (F : Nat → Prop) (e : TypeId) (k : Nat) (enc : α → List Value) (v : Value) (l : List α) : Prop :=
  (v = .slice none 0 0 ∧ l = []) ∨ ∃ b off cap cur, v = .slice (some ⟨b, off, none⟩) l.length cap ∧ F b ∧ RkAt w e k enc b off cap cur l
section
variable {α : Type} {w w' : World} {F G : Nat → Prop} {e : TypeId} {k : Nat} {enc : α → List Value} {v : Value} {l : List α} {b off cap : Nat} {cur : Array Value}
theorem RkAt.cell (h : RkAt w e k enc b off cap cur l) {j : Nat} (hj : j < l.length) {i : Nat} {u : Value} (hu : (enc l[j])[i]? = some u) : w.cell? ⟨b, off + j * k + i, none⟩ = some u := by
  rw [h.bk.cell]
  exact h.at_ j hj i u hu
theorem RkAt.range (h : RkAt w e k enc b off cap cur l) {j : Nat} (hj : j < l.length) : w.rangeAt b (off + j * k) (enc l[j]) := fun i u hu => h.cell hj hu
theorem RkAt.there (h : RkAt w e k enc b off cap cur l) {j : Nat} (hj : j < cap) : w.there b (off + j * k) k := fun i hi => by
  have : off + j * k + i < cur.size := by
    have : (j + 1) * k ≤ cap * k := Nat.mul_le_mul_right _ hj
    rw [Nat.add_mul] at this
    have := h.sz
    omega
  exact ⟨by rw [h.bk.cell]; simp [this], h.bk.fz _⟩
theorem RkAt.same (h : RkAt w e k enc b off cap cur l) (hb : w'.heap[b]? = w.heap[b]?) : RkAt w' e k enc b off cap cur l := ⟨hb.trans h.bk, h.le, h.mx, h.sz, h.at_⟩
theorem RkAt.drewN (h : RkAt w e k enc b off cap cur l) (n : Nat) : RkAt (w.drewN n) e k enc b off cap cur l := h.same rfl
theorem RkAt.drew (h : RkAt w e k enc b off cap cur l) : RkAt w.drew e k enc b off cap cur l := h.same rfl
theorem RkAt.alloc (h : RkAt w e k enc b off cap cur l) (o : Obj) : RkAt (w.alloc o) e k enc b off cap cur l := h.same (Below.heap_alloc w o b h.bk.lt)
theorem RkAt.kept (h : RkAt w e k enc b off cap cur l) (hb : Below w.heap.size w w') : RkAt w' e k enc b off cap cur l := h.same (hb.block b h.bk.lt)
theorem RkAt.far (h : RkAt w e k enc b off cap cur l) {p : Addr} (hp : b ≠ p.block) (u : Value) : RkAt (w.setCell p u) e k enc b off cap cur l := h.same (Below.heap_setCell w p u b hp)
/-- Fewer of them. -/
theorem RkAt.take (h : RkAt w e k enc b off cap cur l) (n : Nat) : RkAt w e k enc b off cap cur (l.take n) :=
  ⟨h.bk, Nat.le_trans (List.length_take_le' _ _) h.le, h.mx, h.sz, fun j hj i u hu => h.at_ j (Nat.lt_of_lt_of_le hj (List.length_take_le' _ _)) i u (by rw [List.getElem_take] at hu; exact hu)⟩
/-- Without the first. -/
theorem RkAt.tail {x : α} (h : RkAt w e k enc b off cap cur (x :: l)) : RkAt w e k enc b (off + k) (cap - 1) cur l := by
  have hl := h.le
  rw [List.length_cons] at hl
  have hm := h.mx
  have hs := h.sz
  have e1 : cap = (cap - 1) + 1 := by omega
  refine ⟨h.bk, by omega, by omega, ?_, fun j hj i u hu => ?_⟩
  · rw [e1, Nat.add_mul] at hs; omega
  · have := h.at_ (j + 1) (by simp; omega) i u (by simpa using hu)
    rw [Nat.add_mul] at this
    rw [show off + k + j * k + i = off + (j * k + 1 * k) + i by omega]
    exact this
/-- One of them is turned, cell by cell. -/
theorem RkAt.set (h : RkAt w e k enc b off cap cur l) (hk : ∀ x, (enc x).length = k) (j : Nat) (hj : j < l.length) (i : Nat) (hi : i < k) (u : Value) (y : α)
    (hy : ∀ c u', (enc y)[c]? = some u' → if c = i then u' = u else (enc l[j])[c]? = some u') : RkAt (w.setCell ⟨b, off + j * k + i, none⟩ u) e k enc b off cap (cur.setIfInBounds (off + j * k + i) u) (l.set j y) := by
  refine ⟨h.bk.set _ _, by rw [List.length_set]; exact h.le, h.mx, by simpa using h.sz, fun q hq c u' hu => ?_⟩
  rw [List.length_set] at hq
  have hc : c < k := by rw [← hk ((l.set j y)[q]'(by simpa using hq))]; exact (List.getElem?_eq_some_iff.1 hu).1
  have hin : off + q * k + c < cur.size := by
    have h1 : (q + 1) * k ≤ cap * k := Nat.mul_le_mul_right _ (by have := h.le; omega)
    rw [Nat.add_mul] at h1
    have := h.sz
    omega
  rw [List.getElem_set] at hu
  rw [Array.getElem?_setIfInBounds]
  by_cases e1 : j = q
  · subst e1
    rw [if_pos rfl] at hu
    have := hy c u' hu
    by_cases e2 : c = i
    · subst e2
      rw [if_pos rfl] at this
      rw [if_pos rfl, if_pos hin, this]
    · rw [if_neg e2] at this
      rw [if_neg (by omega)]
      exact h.at_ j hj c u' this
  · rw [if_neg e1] at hu
    have : off + j * k + i ≠ off + q * k + c := by
      intro e3
      have e4 : j * k + i = q * k + c := by omega
      have a1 : (j * k + i) / k = j := by rw [Nat.mul_comm, Nat.mul_add_div (by omega), Nat.div_eq_of_lt hi]; omega
      have a2 : (q * k + c) / k = q := by rw [Nat.mul_comm, Nat.mul_add_div (by omega), Nat.div_eq_of_lt hc]; omega
      rw [e4, a2] at a1
      exact e1 a1.symm
    rw [if_neg this]
    exact h.at_ q hq c u' hu
theorem Rk.nil (w : World) (F : Nat → Prop) (e : TypeId) (k : Nat) (enc : α → List Value) : Rk w F e k enc (.slice none 0 0) [] := .inl ⟨rfl, rfl⟩
theorem Rk.slice (h : Rk w F e k enc v l) : ∃ a c, v = .slice a l.length c := by
  rcases h with ⟨rfl, rfl⟩ | ⟨b, off, cap, cur, rfl, _⟩
  · exact ⟨_, _, rfl⟩
  · exact ⟨_, _, rfl⟩
theorem Rk.mono (h : Rk w F e k enc v l) (hG : ∀ i, F i → G i) : Rk w G e k enc v l := by
  rcases h with h | ⟨b, off, cap, cur, hv, hF, hr⟩
  · exact .inl h
  · exact .inr ⟨b, off, cap, cur, hv, hG b hF, hr⟩
theorem Rk.same (h : Rk w F e k enc v l) (hb : ∀ i, F i → i < w.heap.size → w'.heap[i]? = w.heap[i]?) : Rk w' F e k enc v l := by
  rcases h with h | ⟨b, off, cap, cur, hv, hF, hr⟩
  · exact .inl h
  · exact .inr ⟨b, off, cap, cur, hv, hF, hr.same (hb b hF hr.bk.lt)⟩
/-- What turned is of another type. -/
theorem Rk.apart (h : Rk w F e k enc v l) (hb : ∀ i, (∃ cs, Bk w i e cs) → w'.heap[i]? = w.heap[i]?) : Rk w' F e k enc v l := by
  rcases h with h | ⟨b, off, cap, cur, hv, hF, hr⟩
  · exact .inl h
  · exact .inr ⟨b, off, cap, cur, hv, hF, hr.same (hb b ⟨_, hr.bk⟩)⟩
theorem Rk.kept (h : Rk w F e k enc v l) (hb : Below w.heap.size w w') : Rk w' F e k enc v l := h.same fun i _ hi => hb.block i hi
theorem Rk.alloc (h : Rk w F e k enc v l) (o : Obj) : Rk (w.alloc o) F e k enc v l := h.same fun i _ hi => Below.heap_alloc w o i hi
theorem Rk.drewN (h : Rk w F e k enc v l) (n : Nat) : Rk (w.drewN n) F e k enc v l := h.same fun _ _ _ => rfl
theorem Rk.tail {x : α} (h : Rk w F e k enc v (x :: l)) : ∃ b off cap, v = .slice (some ⟨b, off, none⟩) (l.length + 1) cap ∧ 1 ≤ cap ∧ Rk w F e k enc (.slice (some ⟨b, off + k, none⟩) l.length (cap - 1)) l := by
  rcases h with ⟨_, h⟩ | ⟨b, off, cap, cur, hv, hF, hr⟩
  · cases h
  · exact ⟨b, off, cap, hv, by have := hr.le; simp at this; omega, .inr ⟨b, off + k, cap - 1, cur, rfl, hF, hr.tail⟩⟩
/-- A new block of elements. -/
theorem RkAt.new (w : World) (cs : Array Value) (hm : cap ≤ maxLen) (hl : l.length ≤ cap) (hs : cap * k ≤ cs.size) (ha : ∀ j (hj : j < l.length) i u, (enc l[j])[i]? = some u → cs[j * k + i]? = some u) : RkAt (w.alloc (.cells cs e)) e k enc w.heap.size 0 cap cs l :=
  ⟨Bk.new _ _ _, hl, hm, by omega, fun j hj i u hu => by rw [Nat.zero_add]; exact ha j hj i u hu⟩
end
end Go.Proofs.YtelbioooggnbiaaGreat
