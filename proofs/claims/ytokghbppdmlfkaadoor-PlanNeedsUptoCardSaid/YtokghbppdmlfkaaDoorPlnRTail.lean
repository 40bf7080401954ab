/- What the document's own Needs leaves: names, modes. -/
import Derived.Test.YtokghbppdmlfkaaDoorPlnRef
import Derived.Test.YtokghbppdmlfkaaDoorPlnNeeds
set_option linter.unusedVariables false
set_option linter.unusedSimpArgs false
namespace Go.Proofs.YtokghbppdmlfkaaDoor
open Go.RowKit

theorem Tryd.info38 : (Tryd.prog.info? 38).map (fun i => (i.zero, i.size, i.bytes)) = some (some (.agg #[.int .i64 0, .string ⟨#[]⟩]), 2, 24) := by kernel_rfl
theorem Tryd.info3 : (Tryd.prog.info? 3).map (fun i => (i.zero, i.size, i.bytes)) = some (some (.int .i64 0), 1, 8) := by kernel_rfl
/-- Needs parted: their names' cells, their modes. -/
def nmL : List Nd → List Value
  | [] => []
  | d :: l => [.int .i64 d.st, .string d.it] ++ nmL l
def mdL (l : List Nd) : List Value := l.map fun d => .int .i64 d.m
theorem nmL_append : ∀ (a b : List Nd), nmL (a ++ b) = nmL a ++ nmL b
  | [], b => rfl
  | d :: a, b => by show [.int .i64 d.st, .string d.it] ++ nmL (a ++ b) = ([.int .i64 d.st, .string d.it] ++ nmL a) ++ nmL b; rw [nmL_append a b, List.append_assoc]
theorem mdL_append (a b : List Nd) : mdL (a ++ b) = mdL a ++ mdL b := List.map_append
def RefPost (l : List Nd) (w : World) (e : Ending) (w' : World) : Prop := ∃ nv mv, e = .returned (.tuple #[nv, mv]) ∧ w'.ownsRow w.heap.size 38 2 nv l.length (nmL l) ∧ w'.ownsRow w.heap.size 3 1 mv l.length (mdL l) ∧ Below w.heap.size w w'
theorem nm_made (w : World) {B : Nat} (hB : B ≤ w.heap.size) (cs : Array Value) (l : List Nd) (h : cs.toList = nmL l) (hl : cs.size = l.length * 2) (hm : l.length ≤ maxLen) : (w.alloc (.cells cs 38)).ownsRow B 38 2 (.slice (some ⟨w.heap.size, 0, none⟩) l.length l.length) l.length (nmL l) := by
  refine ⟨by rw [← h]; simpa using hl, .inr ⟨w.heap.size, l.length, cs, rfl, hB, heap_alloc_new w _, Nat.le_refl _, hm, hl, ?_⟩⟩
  rw [h, List.take_of_length_le (by rw [← h]; simp; omega)]
theorem md_made (w : World) {B : Nat} (hB : B ≤ w.heap.size) (cs : Array Value) (l : List Nd) (h : cs.toList = mdL l) (hl : cs.size = l.length * 1) (hm : l.length ≤ maxLen) : (w.alloc (.cells cs 3)).ownsRow B 3 1 (.slice (some ⟨w.heap.size, 0, none⟩) l.length l.length) l.length (mdL l) := by
  refine ⟨by rw [← h]; simpa using hl, .inr ⟨w.heap.size, l.length, cs, rfl, hB, heap_alloc_new w _, Nat.le_refl _, hm, hl, ?_⟩⟩
  rw [h, List.take_of_length_le (by rw [← h]; simp; omega)]

theorem own_kept {w w' : World} {B : Nat} {e : TypeId} {size : Nat} {v : Value} {n : Nat} {xs : List Value} (h : w.ownsRow B e size v n xs) (hb : Below w.heap.size w w') : w'.ownsRow B e size v n xs := by
  refine ⟨h.1, ?_⟩
  rcases h.2 with h0 | ⟨g, cap, cur, hv, hB, hh, r⟩
  · exact .inl h0
  · refine .inr ⟨g, cap, cur, hv, hB, (hb.block g (h.lt g (by rw [hv]; rfl)).2).trans hh, r⟩
theorem below_none {B : Nat} {w a b : World} {v : Value} (hv : v = .slice none 0 0) (h : Below B w a) (hg : a.grownBy b v.ownBlock) (hB : B ≤ a.heap.size) : Below B w b :=
  below_grow h hg (by subst hv; intro k hk; simp [Value.ownBlock] at hk) hB

theorem own_bk {w : World} {B : Nat} {e : TypeId} {size : Nat} {v : Value} {n : Nat} {xs : List Value} (h : w.ownsRow B e size v n xs) : ∀ k, v.ownBlock = some k → B ≤ k ∧ ∃ cur, Bk w k e cur := by
  intro k hk
  rcases h.2 with ⟨rfl, _⟩ | ⟨g, cap, cur, rfl, hg, hh, r⟩
  · simp [Value.ownBlock] at hk
  · simp [Value.ownBlock] at hk
    subst hk
    exact ⟨hg, cur, hh⟩
/-- A row of one's own, while a row of another type grows. -/
theorem own_grown {w w' : World} {B : Nat} {e e' : TypeId} {size : Nat} {v : Value} {n : Nat} {xs : List Value} (h : w.ownsRow B e size v n xs) {row : Option Nat} (hg : w.grownBy w' row) (hr : ∀ k, row = some k → ∃ cur, Bk w k e' cur) (hne : e ≠ e') : w'.ownsRow B e size v n xs := by
  refine ⟨h.1, ?_⟩
  rcases h.2 with h0 | ⟨g, cap, cur, hv, hB, hh, r⟩
  · exact .inl h0
  · refine .inr ⟨g, cap, cur, hv, hB, (hg.block g (h.lt g (by rw [hv]; rfl)).2 ?_).trans hh, r⟩
    intro e1
    obtain ⟨cur', hb⟩ := hr g e1.symm
    exact Bk.ne_ (show Bk w g e cur from hh) hb hne rfl

end Go.Proofs.YtokghbppdmlfkaaDoor
