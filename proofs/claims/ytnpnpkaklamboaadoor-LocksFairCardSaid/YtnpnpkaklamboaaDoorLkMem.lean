/- A queue of locks in memory; elements read where they lie; the places at which something holds. -/
import Derived.Test.YtnpnpkaklamboaaDoorProg
import Derived.Test.YtnpnpkaklamboaaDoorLkAbs2
import Derived.Test.YtnpnpkaklamboaaDoorLkRow2
import Derived.Test.YtnpnpkaklamboaaDoorModWalk
import Derived.BigQuiet
set_option linter.unusedVariables false
set_option linter.unusedSimpArgs false
namespace Go.Proofs.YtnpnpkaklamboaaDoor
open Go.RowKit

@[reducible] def hC (h : Hold) : List Value := [.int .i64 h.x, .int .i64 (h.m : Int), .int .i64 (h.w : Int)]
@[reducible] def eC (x : Int) : List Value := [.int .i64 x]
@[reducible] def wC (p : Int × Nat) : List Value := [.int .i64 p.1, .int .i64 (p.2 : Int)]
theorem hC_len (h : Hold) : (hC h).length = 3 := rfl
theorem eC_len (x : Int) : (eC x).length = 1 := rfl
theorem wC_len (p : Int × Nat) : (wC p).length = 2 := rfl
theorem hC_one (h : Hold) : ∀ u ∈ hC h, u.oneCell' = true := by simp [hC, Value.oneCell']
theorem eC_one (x : Int) : ∀ u ∈ eC x, u.oneCell' = true := by simp [eC, Value.oneCell']
theorem wC_one (p : Int × Nat) : ∀ u ∈ wC p, u.oneCell' = true := by simp [wC, Value.oneCell']
@[reducible] def hV (h : Hold) : Value := .agg #[.int .i64 h.x, .int .i64 (h.m : Int), .int .i64 (h.w : Int)]
@[reducible] def eV (x : Int) : Value := .int .i64 x
@[reducible] def wV (p : Int × Nat) : Value := .agg #[.int .i64 p.1, .int .i64 (p.2 : Int)]
structure Qm (w : World) (F : Nat → Prop) (g : Nat) (vh ve vw : Value) (q : Que) : Prop where
  fg : F g
  bk : Bk w g 61 #[vh, ve, vw]
  hs : Rk w F 66 3 hC vh q.hs
  eg : Rk w F 3 1 eC ve q.eg
  ws : Rk w F 68 2 wC vw q.ws
namespace Qm
variable {w w' : World} {F G : Nat → Prop} {g : Nat} {vh ve vw : Value} {q : Que}
theorem same (h : Qm w F g vh ve vw q) (hb : ∀ i, F i → i < w.heap.size → w'.heap[i]? = w.heap[i]?) : Qm w' F g vh ve vw q :=
  ⟨h.fg, (hb g h.fg h.bk.lt).trans h.bk, h.hs.same hb, h.eg.same hb, h.ws.same hb⟩
theorem mono (h : Qm w F g vh ve vw q) (hG : ∀ i, F i → G i) : Qm w G g vh ve vw q := ⟨hG g h.fg, h.bk, h.hs.mono hG, h.eg.mono hG, h.ws.mono hG⟩
theorem kept (h : Qm w F g vh ve vw q) (hb : Below w.heap.size w w') : Qm w' F g vh ve vw q := h.same fun i _ hi => hb.block i hi
theorem alloc (h : Qm w F g vh ve vw q) (o : Obj) : Qm (w.alloc o) F g vh ve vw q := h.same fun i _ hi => Below.heap_alloc w o i hi
theorem drewN (h : Qm w F g vh ve vw q) (n : Nat) : Qm (w.drewN n) F g vh ve vw q := h.same fun _ _ _ => rfl
end Qm

/-- What is asked of a predicate that may lay blocks of its own. -/
def PB {α : Type} (g : Nat) (lb : Array Value) (enc : α → Value) (p : α → Bool) (l : List α) (w : World) : Prop :=
  ∀ (W : World) (x : α), x ∈ l → Below w.heap.size w W → Calls Tryd.prog g (#[enc x] ++ lb) W fun e w' => e = .returned (.bool (p x)) ∧ Below w.heap.size w w'
theorem PB.sub {α : Type} {g : Nat} {lb : Array Value} {enc : α → Value} {p : α → Bool} {l m : List α} {w : World} (h : PB g lb enc p l w) (hs : ∀ x, x ∈ m → x ∈ l) : PB g lb enc p m w := fun W x hx hb => h W x (hs x hx) hb
/-- The first place at which it holds, as Go tells it. -/
def idxP {α : Type} (p : α → Bool) (l : List α) : Int := match l.findIdx? p with | some i => (i : Int) | none => -1
theorem idxP_hit {α : Type} {p : α → Bool} {l : List α} {i : Nat} (hi : i < l.length) (ht : p l[i] = true) (hno : ∀ j (hj : j < l.length), j < i → p l[j] = false) : idxP p l = (i : Int) := by
  unfold idxP
  have : l.findIdx? p = some i := by
    rw [List.findIdx?_eq_some_iff_getElem]
    exact ⟨hi, ht, fun j hj => by rw [hno j (by omega) hj]; simp⟩
  rw [this]
theorem idxP_miss {α : Type} {p : α → Bool} {l : List α} (hno : ∀ j (hj : j < l.length), p l[j] = false) : idxP p l = -1 := by
  unfold idxP
  have : l.findIdx? p = none := by
    rw [List.findIdx?_eq_none_iff]
    intro x hx
    obtain ⟨j, hj, rfl⟩ := List.mem_iff_getElem.1 hx
    exact hno j hj
  rw [this]
theorem idxP_spec {α : Type} (p : α → Bool) (l : List α) : (idxP p l = -1 ∧ ∀ x, x ∈ l → p x = false) ∨ ∃ (i : Nat) (hi : i < l.length), idxP p l = (i : Int) ∧ p l[i] = true ∧ ∀ j (hj : j < l.length), j < i → p l[j] = false := by
  unfold idxP
  cases e : l.findIdx? p with
  | none =>
    left
    refine ⟨rfl, fun x hx => ?_⟩
    have := List.findIdx?_eq_none_iff.1 e x hx
    simpa using this
  | some i =>
    right
    obtain ⟨h1, h2, h3⟩ := List.findIdx?_eq_some_iff_getElem.1 e
    exact ⟨i, h1, rfl, h2, fun j hj hji => by have := h3 j hji; simpa using this⟩
section
variable {ops : Array Oper} {rest : List Oper} {o : Oper} {a : Act} {w : World} {Q : Exit → Act → World → Prop}
theorem load_hold (hgd : o.guard = none) (x : Operand) (ho : o.op = .load 66 x) (b off : Nat) (h : Hold) (hx : a.eval x = .pointer (some ⟨b, off, none⟩)) (hr : w.rangeAt b off (hC h))
    (hK : wpList Tryd.prog ops Q rest (a.put o.dst (hV h)) w) : wpList Tryd.prog ops Q (o :: rest) a w :=
  wpList_load_mid hgd 66 x ho b off hx (hC h) _ hr Tryd.underlying66 rfl (by rw [hC_len]; kernel_rfl) hK
theorem load_wish (hgd : o.guard = none) (x : Operand) (ho : o.op = .load 68 x) (b off : Nat) (p : Int × Nat) (hx : a.eval x = .pointer (some ⟨b, off, none⟩)) (hr : w.rangeAt b off (wC p))
    (hK : wpList Tryd.prog ops Q rest (a.put o.dst (wV p)) w) : wpList Tryd.prog ops Q (o :: rest) a w :=
  wpList_load_mid hgd 68 x ho b off hx (wC p) _ hr Tryd.underlying68 rfl (by rw [wC_len]; kernel_rfl) hK
end
theorem hpred_any (h : Hold) (K : Nat) (id : Int) (w : World) (hk : w.cell? ⟨K, 0, none⟩ = some (.int .i64 id)) :
    Calls Tryd.prog 50 #[.agg #[.int .i64 h.x, .int .i64 (h.m : Int), .int .i64 (h.w : Int)], .pointer (some ⟨K, 0, none⟩)] w fun e w' => e = .returned (.bool (h.x == id)) ∧ Below w.heap.size w w' := by
  have k1 : (w.alloc (.cells #[.int .i64 h.x, .int .i64 (h.m : Int), .int .i64 (h.w : Int)] 66)).cell? ⟨K, 0, none⟩ = some (.int .i64 id) := Lib.cell?_alloc_some _ hk
  go_enter Tryd.func50, Tryd.ntmps50
  go_wp2
  go_ret
  exact ⟨rfl, (Below.refl _ w).alloc (Nat.le_refl _) _⟩
end Go.Proofs.YtnpnpkaklamboaaDoor
