/- A device of sectors, as plain functions; how it lies in memory. No program in sight. -/
import Derived.Test.YtgafajbdmegfgaaGreatBk
import Derived.Test.YtgafajbdmegfgaaGreatZs
import Derived.Test.YtgafajbdmegfgaaGreatRead
set_option linter.unusedVariables false
set_option linter.unusedSimpArgs false
namespace Go.Proofs.YtgafajbdmegfgaaGreat
open Go.RowKit

/-- Block g begins with these cells; none is frozen. -/
def Rw (w : World) (g : Nat) (t : TypeId) (xs : List Value) : Prop := ∃ cur, Bk w g t cur ∧ cur.toList.take xs.length = xs
namespace Rw
variable {w w' : World} {g : Nat} {t : TypeId} {xs : List Value}
theorem lt (h : Rw w g t xs) : g < w.heap.size := by obtain ⟨c, hb, _⟩ := h; exact hb.lt
theorem cell (h : Rw w g t xs) {i : Nat} (hi : i < xs.length) : w.cell? ⟨g, i, none⟩ = xs[i]? := by
  obtain ⟨c, hb, e⟩ := h
  rw [hb.cell i]
  conv => rhs; rw [← e]
  rw [List.getElem?_take_of_lt hi, Array.getElem?_toList]
theorem fz (h : Rw w g t xs) (i : Nat) : w.frozen? ⟨g, i, none⟩ = false := by obtain ⟨c, hb, _⟩ := h; exact hb.fz i
theorem of_block (h : Rw w g t xs) (hb : w'.heap[g]? = w.heap[g]?) : Rw w' g t xs := by obtain ⟨c, h1, e⟩ := h; exact ⟨c, hb.trans h1, e⟩
theorem kept (h : Rw w g t xs) (hb : Below w.heap.size w w') : Rw w' g t xs := h.of_block (hb.block g h.lt)
theorem alloc (h : Rw w g t xs) (o : Obj) : Rw (w.alloc o) g t xs := h.of_block (Below.heap_alloc w o g h.lt)
theorem drew (h : Rw w g t xs) : Rw w.drew g t xs := h
theorem far (h : Rw w g t xs) {p : Addr} (hp : g ≠ p.block) (u : Value) : Rw (w.setCell p u) g t xs := h.of_block (Below.heap_setCell w p u g hp)
theorem set (h : Rw w g t xs) (i : Nat) (u : Value) (hi : i < xs.length) : Rw (w.setCell ⟨g, i, none⟩ u) g t (xs.set i u) := by
  obtain ⟨c, hb, e⟩ := h
  refine ⟨_, hb.set i u, ?_⟩
  rw [Array.toList_setIfInBounds, List.length_set, List.take_set]
  exact congrArg (fun l => l.set i u) e
end Rw

/-- Nothing has turned but the blocks of p, and what is new. -/
structure Out (w w' : World) (p : Nat → Prop) : Prop where
  os : w'.os = w.os
  tape : w'.tape = w.tape
  output : w'.output = w.output
  size : w.heap.size ≤ w'.heap.size
  block : ∀ k, k < w.heap.size → ¬ p k → w'.heap[k]? = w.heap[k]?
namespace Out
variable {a b c : World} {p : Nat → Prop}
theorem refl (w : World) (p : Nat → Prop) : Out w w p := ⟨rfl, rfl, rfl, Nat.le_refl _, fun _ _ _ => rfl⟩
theorem trans (h : Out a b p) (k : Out b c p) : Out a c p :=
  ⟨k.os.trans h.os, k.tape.trans h.tape, k.output.trans h.output, Nat.le_trans h.size k.size, fun i hi hn => (k.block i (Nat.lt_of_lt_of_le hi h.size) hn).trans (h.block i hi hn)⟩
/-- A step whose blocks may be new to the first. -/
theorem then_ {q : Nat → Prop} (h : Out a b p) (k : Out b c q) (hq : ∀ i, i < a.heap.size → q i → p i) : Out a c p :=
  ⟨k.os.trans h.os, k.tape.trans h.tape, k.output.trans h.output, Nat.le_trans h.size k.size, fun i hi hn => (k.block i (Nat.lt_of_lt_of_le hi h.size) (fun e => hn (hq i hi e))).trans (h.block i hi hn)⟩
theorem of_below (h : Below a.heap.size a b) (p : Nat → Prop) : Out a b p := ⟨h.os, h.tape, h.output, h.size, fun i hi _ => h.block i hi⟩
theorem of_grown {r : Option Nat} (h : a.grownBy b r) (hr : ∀ k, r = some k → k < a.heap.size → p k) : Out a b p := ⟨h.os, h.tape, h.output, h.size, fun i hi hn => h.block i hi (fun e => hn (hr i e.symm hi))⟩
theorem below (h : Out a b p) {B : Nat} (hB : B ≤ a.heap.size) (hp : ∀ k, p k → B ≤ k) : Below B a b := ⟨h.os, h.tape, h.output, h.size, fun i hi => h.block i (by omega) (fun e => by have := hp i e; omega)⟩
theorem set (h : Out a b p) {q : Addr} (hq : q.block < a.heap.size → p q.block) (u : Value) : Out a (b.setCell q u) p :=
  ⟨h.os, h.tape, h.output, by simpa [World.setCell] using h.size, fun i hi hn => (Below.heap_setCell b q u i (fun e => hn (by subst e; exact hq hi))).trans (h.block i hi hn)⟩
theorem drew (h : Out a b p) : Out a b.drew p := ⟨h.os, h.tape, h.output, h.size, h.block⟩
theorem alloc (h : Out a b p) (o : Obj) : Out a (b.alloc o) p :=
  ⟨h.os, h.tape, h.output, Nat.le_trans h.size (by simp), fun i hi hn => (Below.heap_alloc b o i (Nat.lt_of_lt_of_le hi h.size)).trans (h.block i hi hn)⟩
theorem rw_ (h : Out a b p) {g : Nat} {t : TypeId} {xs : List Value} (k : Rw a g t xs) (hn : ¬ p g) : Rw b g t xs := k.of_block (h.block g k.lt hn)
theorem bk (h : Out a b p) {g : Nat} {t : TypeId} {cs : Array Value} (k : Bk a g t cs) (hn : ¬ p g) : Bk b g t cs := (h.block g k.lt hn).trans k
theorem mono {q : Nat → Prop} (h : Out a b p) (hq : ∀ i, i < a.heap.size → p i → q i) : Out a b q := ⟨h.os, h.tape, h.output, h.size, fun i hi hn => h.block i hi (fun e => hn (hq i hi e))⟩
end Out

/-- A device. -/
structure Dsk where
  firm : List ByteArray
  now : List ByteArray
  pend : List (Nat × ByteArray)
  fuel : Int
  down : Bool

def pcells (l : List (Nat × ByteArray)) : List Value := l.flatMap fun p => [Value.int .i64 p.1, .string p.2]
theorem pcells_length (l : List (Nat × ByteArray)) : (pcells l).length = l.length * 2 := by
  induction l with
  | nil => rfl
  | cons p l ih => simp only [pcells, List.flatMap_cons, List.length_append, List.length_cons, List.length_nil] at ih ⊢; rw [ih]; omega
theorem pcells_append (l : List (Nat × ByteArray)) (p : Nat × ByteArray) : pcells (l ++ [p]) = pcells l ++ [.int .i64 p.1, .string p.2] := by simp [pcells]
theorem pcells_get (l : List (Nat × ByteArray)) (i : Nat) (hi : i < l.length) : (pcells l)[i * 2]? = some (.int .i64 (l[i].1 : Int)) ∧ (pcells l)[i * 2 + 1]? = some (.string l[i].2) := by
  induction l generalizing i with
  | nil => simp at hi
  | cons p l ih =>
    cases i with
    | zero => simp [pcells]
    | succ i =>
      have h := ih i (by simpa using hi)
      have e : pcells (p :: l) = .int .i64 p.1 :: .string p.2 :: pcells l := by simp [pcells]
      rw [e, show (i + 1) * 2 = i * 2 + 1 + 1 by omega]
      simpa using h

/-- Where it lies. -/
structure Ids where
  g : Nat
  f : Nat
  n : Nat
  fc : Nat
  nc : Nat
  p : Value

def Ids.foot (I : Ids) (k : Nat) : Prop := k = I.g ∨ k = I.f ∨ k = I.n ∨ I.p.ownBlock = some k
def Ids.box (I : Ids) (S : Dsk) : Array Value := #[.slice (some ⟨I.f, 0, none⟩) S.firm.length I.fc, .slice (some ⟨I.n, 0, none⟩) S.now.length I.nc, I.p, .int .i64 S.fuel, .bool S.down]
def Ids.ptr (I : Ids) : Value := .pointer (some ⟨I.g, 0, none⟩)

/-- What a device keeps to. -/
structure Dsk.ok (S : Dsk) : Prop where
  len : S.now.length = S.firm.length
  one : 1 ≤ S.firm.length
  most : S.firm.length ≤ 16384
  pend : ∀ p ∈ S.pend, p.1 < S.firm.length
  lo : -1 ≤ S.fuel
  hi : S.fuel ≤ 9223372036854775807
  sizes : ∀ i, i < S.now.length → (S.now.getD i ⟨#[]⟩).size = 64
  fsizes : ∀ i, i < S.firm.length → (S.firm.getD i ⟨#[]⟩).size = 64
  psizes : ∀ p ∈ S.pend, p.2.size = 64
end Go.Proofs.YtgafajbdmegfgaaGreat
