/- The walk of the reference's Same. -/
import Derived.Test.YtggabnmfjooejaaRecEq
import Derived.Test.YtggabnmfjooejaaRecEnc
set_option linter.unusedVariables false
set_option linter.unusedSimpArgs false
namespace Go.Proofs.Ytggabnmfjooejaa
open Go.RowKit Go.BigFrame

def Rc.hd (a b : Rc) : Prop := a.k = b.k ∧ a.x = b.x ∧ a.pv = b.pv ∧ a.nx = b.nx ∧ a.fr = b.fr ∧ a.u = b.u ∧ a.ni = b.ni ∧ a.nl = b.nl
def Rc.same (a b : Rc) : Prop := a.hd b ∧ (∀ i, i < a.ni → imB (a.im i) (b.im i) = true) ∧ ∀ i, i < a.nl → alB (a.al i) (b.al i) = true
theorem not_hd {a b : Rc} (h : ¬ a.hd b) : a.k ≠ b.k ∨ (a.k = b.k ∧ a.x ≠ b.x) ∨ (a.k = b.k ∧ a.x = b.x ∧ a.pv ≠ b.pv) ∨ (a.k = b.k ∧ a.x = b.x ∧ a.pv = b.pv ∧ a.nx ≠ b.nx) ∨ (a.k = b.k ∧ a.x = b.x ∧ a.pv = b.pv ∧ a.nx = b.nx ∧ a.fr ≠ b.fr) ∨
    (a.k = b.k ∧ a.x = b.x ∧ a.pv = b.pv ∧ a.nx = b.nx ∧ a.fr = b.fr ∧ a.u ≠ b.u) ∨ (a.k = b.k ∧ a.x = b.x ∧ a.pv = b.pv ∧ a.nx = b.nx ∧ a.fr = b.fr ∧ a.u = b.u ∧ a.ni ≠ b.ni) ∨ (a.k = b.k ∧ a.x = b.x ∧ a.pv = b.pv ∧ a.nx = b.nx ∧ a.fr = b.fr ∧ a.u = b.u ∧ a.ni = b.ni ∧ a.nl ≠ b.nl) := by
  unfold Rc.hd at h
  by_cases h1 : a.k = b.k <;> by_cases h2 : a.x = b.x <;> by_cases h3 : a.pv = b.pv <;> by_cases h4 : a.nx = b.nx <;> by_cases h5 : a.fr = b.fr <;> by_cases h6 : a.u = b.u <;> by_cases h7 : a.ni = b.ni <;> by_cases h8 : a.nl = b.nl <;> simp_all
theorem bne_of {a b : Int} (h : a ≠ b) : (a != b) = true := by simp [h]
theorem un_no {a b : Un} (h : a ≠ b) : unB a b = false := by
  cases hh : unB a b with
  | false => rfl
  | true => exact absurd ((unB_iff a b).1 hh) h

set_option maxRecDepth 100000 in
set_option maxHeartbeats 4000000 in
theorem same_head (a b : Rc) (ai bi : Option Addr) (ci di : Nat) (al bl : Option Addr) (cl dl : Nat) (w : World) (h : ¬ a.hd b) :
    Calls Try.prog 15 #[.agg (a.cs (.slice ai a.ni ci) (.slice al a.nl cl)), .agg (b.cs (.slice bi b.ni di) (.slice bl b.nl dl))] w fun e w' => e = .returned (.bool false) ∧ Below w.heap.size w w' := by
  have hh := not_hd h
  clear h
  have B0 := Lib.hid (((Below.refl w.heap.size w).alloc (Nat.le_refl _) (.cells (a.cs (.slice ai a.ni ci) (.slice al a.nl cl)) 29)).alloc (by simp) (.cells (b.cs (.slice bi b.ni di) (.slice bl b.nl dl)) 29))
  have KA := Lib.hid ((Bk.new w 29 (a.cs (.slice ai a.ni ci) (.slice al a.nl cl))).alloc (.cells (b.cs (.slice bi b.ni di) (.slice bl b.nl dl)) 29))
  have KB := Lib.hid (Bk.new2 w (.cells (a.cs (.slice ai a.ni ci) (.slice al a.nl cl)) 29) 29 (b.cs (.slice bi b.ni di) (.slice bl b.nl dl)))
  have HUN := Lib.hid (fun w => undo_neq a.u b.u w)
  obtain ⟨k, x, pv, nx, u, ni, im, nl, als, fr⟩ := a
  obtain ⟨k', x', pv', nx', u', ni', im', nl', als', fr'⟩ := b
  dsimp only at hh B0 KA KB HUN ⊢
  generalize hcs : Rc.cs ⟨k, x, pv, nx, u, ni, im, nl, als, fr⟩ (.slice ai ni ci) (.slice al nl cl) = cs at *
  have hcs' := hcs
  have HCS := Lib.hid hcs'
  unfold Rc.cs at hcs
  subst hcs
  generalize hds : Rc.cs ⟨k', x', pv', nx', u', ni', im', nl', als', fr'⟩ (.slice bi ni' di) (.slice bl nl' dl) = ds at *
  have hds' := hds
  have HDS := Lib.hid hds'
  unfold Rc.cs at hds
  subst hds
  clear hcs' hds'
  rcases hh with h | ⟨rfl, h⟩ | ⟨rfl, rfl, h⟩ | ⟨rfl, rfl, rfl, h⟩ | ⟨rfl, rfl, rfl, rfl, h⟩ | ⟨rfl, rfl, rfl, rfl, rfl, h⟩ | ⟨rfl, rfl, rfl, rfl, rfl, rfl, h⟩ | ⟨rfl, rfl, rfl, rfl, rfl, rfl, rfl, h⟩
  · have h := bne_of h
    go_enter Try.func15, Try.ntmps15
    go_wp2
    go_ret
    exact ⟨rfl, B0.out⟩
  · have h := bne_of h
    go_enter Try.func15, Try.ntmps15
    go_wp2
    go_ret
    exact ⟨rfl, B0.out⟩
  · have h := bne_of h
    go_enter Try.func15, Try.ntmps15
    go_wp2
    go_ret
    exact ⟨rfl, B0.out⟩
  · have h := bne_of h
    go_enter Try.func15, Try.ntmps15
    go_wp2
    go_ret
    exact ⟨rfl, B0.out⟩
  · have h := bne_of h
    go_enter Try.func15, Try.ntmps15
    go_wp2
    go_ret
    exact ⟨rfl, B0.out⟩
  · have h := un_no h
    have hq := HUN.out
    rw [h] at hq
    have TOK : True := trivial
    go_enter Try.func15, Try.ntmps15
    go_wp2_with (first
      | (have _t := TOK; refine wpList_load_part 25 _ rfl (by first | rfl | kernel_rfl) w.heap.size 4 u.cs rfl (rc_undo (by have := KA.out; rw [← HCS.out] at this; exact this)) ?_; clear TOK _t)
      | (refine wpList_load_part 25 _ rfl (by first | rfl | kernel_rfl) (w.heap.size + 1) 4 u'.cs rfl (rc_undo (by have := KB.out; rw [← HDS.out] at this; exact this)) ?_))
    go_ret
    exact ⟨rfl, B0.out⟩
  · have h : ((ni : Int) != (ni' : Int)) = true := by simp; omega
    have hq := HUN.out
    rw [unB_self] at hq
    have TOK : True := trivial
    go_enter Try.func15, Try.ntmps15
    go_wp2_with (first
      | (have _t := TOK; refine wpList_load_part 25 _ rfl (by first | rfl | kernel_rfl) w.heap.size 4 u.cs rfl (rc_undo (by have := KA.out; rw [← HCS.out] at this; exact this)) ?_; clear TOK _t)
      | (refine wpList_load_part 25 _ rfl (by first | rfl | kernel_rfl) (w.heap.size + 1) 4 u.cs rfl (rc_undo (by have := KB.out; rw [← HDS.out] at this; exact this)) ?_))
    go_ret
    exact ⟨rfl, B0.out⟩
  · have h : ((nl : Int) != (nl' : Int)) = true := by simp; omega
    have hq := HUN.out
    rw [unB_self] at hq
    have TOK : True := trivial
    go_enter Try.func15, Try.ntmps15
    go_wp2_with (first
      | (have _t := TOK; refine wpList_load_part 25 _ rfl (by first | rfl | kernel_rfl) w.heap.size 4 u.cs rfl (rc_undo (by have := KA.out; rw [← HCS.out] at this; exact this)) ?_; clear TOK _t)
      | (refine wpList_load_part 25 _ rfl (by first | rfl | kernel_rfl) (w.heap.size + 1) 4 u.cs rfl (rc_undo (by have := KB.out; rw [← HDS.out] at this; exact this)) ?_))
    go_ret
    exact ⟨rfl, B0.out⟩
end Go.Proofs.Ytggabnmfjooejaa
