/- A volume, told plainly: which store each page belongs to, what each place of the directory holds. -/
import Derived.Test.YtdhfcjplnbnkdaaSpcFacts
set_option linter.unusedVariables false
set_option linter.unusedSimpArgs false
namespace Go.Proofs.Ytdhfcjplnbnkdaa
open Go.RowKit Go.Maps

def put {α : Type} (f : Nat → α) (j : Nat) (x : α) : Nat → α := fun i => if i = j then x else f i
theorem put_at {α : Type} (f : Nat → α) (j : Nat) (x : α) : put f j x j = x := if_pos rfl
theorem put_ne {α : Type} (f : Nat → α) {i j : Nat} (x : α) (h : i ≠ j) : put f j x i = f i := if_neg h
structure Vol (pg : Nat → Pg) (n : Nat) (st : Nat → Int) (kd rt : Nat → Nat) (ow : Nat → Option Int) : Prop where
  d : DirOk (pg 0) kd rt
  m : MapOk (pg 1) n
  st : ∀ i, i < 6 → ((pg 0).c i).st = st i
  own : ∀ i, i < n → ownB (pg 1) i = (ow i).isSome
  s : ∀ i, 2 ≤ i → i < n → ∀ x, ow i = some x → (pg i).s = x
  z : ow 0 = some 0 ∧ ow 1 = some 0
section
variable {w : World} {B g b gs r N M n : Nat} {und pg : Nat → Pg} {st : Nat → Int} {kd rt : Nat → Nat} {ow : Nat → Option Int}
/-- A volume that has just been laid. -/
def ow0 : Nat → Option Int := fun i => if i < 2 then some 0 else none
theorem vol_new (pg : Nat → Pg) (n : Nat) (h1 : 4 ≤ n) (h2 : n ≤ 1024) : Vol (upd (upd pg 0 dir0) 1 (mapN n)) n (fun _ => 0) (fun _ => 0) (fun _ => 0) ow0 where
  d := DirOk.none
  m := mapN_ok n h1 h2
  st := fun i _ => rfl
  own := fun i hi => by
    show ownB (mapN n) i = _
    rw [mapN_own n h1 h2 i (by omega)]
    unfold ow0
    by_cases h : i < 2
    · simp [h]
    · simp [h]
  s := fun i h2 hi x hx => by
    unfold ow0 at hx
    rw [if_neg (by omega)] at hx
    cases hx
  z := ⟨rfl, rfl⟩
theorem Vol.lo (h : Vol pg n st kd rt ow) : 4 ≤ n ∧ n ≤ 1024 := ⟨h.m.lo, h.m.hi⟩
def VMake (w : World) (B g b gs r N M n : Nat) (und : Nat → Pg) (st : Nat → Int) (kd rt : Nat → Nat) (ow : Nat → Option Int) (kind : Nat) (e : Ending) (w' : World) : Prop :=
  ((∀ i, i < 6 → st i ≠ 0) ∧ e = .returned (.tuple #[.int .i64 0, .int .i64 192]) ∧ Below w.heap.size w w') ∨
  (∃ j, j < 6 ∧ st j = 0 ∧ (∀ i, i < n → (ow i).isSome = true) ∧ e = .returned (.tuple #[.int .i64 0, .int .i64 140]) ∧ Below w.heap.size w w') ∨
  (∃ (j id : Nat) (pg' : Nat → Pg), j < 6 ∧ st j = 0 ∧ (∀ q, q < j → st q ≠ 0) ∧ 2 ≤ id ∧ id < n ∧ ow id = none ∧ (∀ i, i < id → (ow i).isSome = true) ∧
    e = .returned (.tuple #[.int .i64 ((j : Int) + 1), .int .i64 0]) ∧ SV w' B g b gs r N (M + 3) und pg' ∧ Vol pg' n (put st j 1) (put kd j kind) (put rt j id) (put ow id (some ((j : Int) + 1))) ∧ w.grownBy w' (some b))
theorem Vol.make (h : Vol pg n st kd rt ow) (j id : Nat) (hj : j < 6) (h2 : 2 ≤ id) (hid : id < n) (kind : Nat) (hk : kind < 256) :
    Vol (upd (upd (upd pg 1 (mrk (pg 1) id true)) id (newPg kind j)) 0 (putC (pg 0) j ⟨1, stoD kind id⟩)) n (put st j 1) (put kd j kind) (put rt j id) (put ow id (some ((j : Int) + 1))) := by
  have hl := h.lo
  have e0 : (upd (upd (upd pg 1 (mrk (pg 1) id true)) id (newPg kind j)) 0 (putC (pg 0) j ⟨1, stoD kind id⟩)) 0 = putC (pg 0) j ⟨1, stoD kind id⟩ := rfl
  have e1 : (upd (upd (upd pg 1 (mrk (pg 1) id true)) id (newPg kind j)) 0 (putC (pg 0) j ⟨1, stoD kind id⟩)) 1 = mrk (pg 1) id true := by
    unfold upd; rw [if_neg (by omega), if_neg (by omega), if_pos rfl]
  refine ⟨?_, ?_, fun i hi => ?_, fun i hi => ?_, fun i h2 hi x hx => ?_, ?_⟩
  · rw [e0]; exact h.d.made j kind id hk (by omega)
  · rw [e1]; exact h.m.mrk id true
  · rw [e0]
    show (if i = j then (⟨1, stoD kind id⟩ : Ce) else (pg 0).c i).st = _
    unfold put
    by_cases e : i = j
    · rw [if_pos e, if_pos e]
    · rw [if_neg e, if_neg e]; exact h.st i hi
  · rw [e1, mrk_own h.m.ch _ _ _ (by omega)]
    unfold put
    by_cases e : i = id
    · rw [if_pos e, if_pos e]; rfl
    · rw [if_neg e, if_neg e]; exact h.own i hi
  · unfold upd
    rw [if_neg (by omega)]
    unfold put at hx
    by_cases e : i = id
    · rw [if_pos e] at hx
      rw [if_pos e]
      exact Option.some.inj hx
    · rw [if_neg e] at hx
      rw [if_neg e, if_neg (by omega)]
      exact h.s i h2 hi x hx
  · rw [put_ne _ _ (by omega), put_ne _ _ (by omega)]; exact h.z
theorem vmake (hv : Vol pg n st kd rt ow) {kind : Nat} {e : Ending} {w' : World} (hk : kind < 256) (h : MakePost w B g b gs r N M n und pg kind e w') : VMake w B g b gs r N M n und st kd rt ow kind e w' := by
  have hl := hv.lo
  rcases h with ⟨h, h1, h2⟩ | ⟨j, hj, h0, h, h1, h2⟩ | ⟨j, id, hj, h0, hq, hi, h1, ha, he, hs, hg⟩
  · exact .inl ⟨fun i hi => by rw [← hv.st i hi]; exact h i hi, h1, h2⟩
  · exact .inr (.inl ⟨j, hj, by rw [← hv.st j hj]; exact h0, fun i hi => by rw [← hv.own i hi]; exact h i hi, h1, h2⟩)
  · rw [hv.own id hi] at h1
    have hn : ow id = none := by cases ho : ow id with | none => rfl | some x => rw [ho] at h1; cases h1
    have h2 : 2 ≤ id := by
      by_cases e0 : id = 0
      · subst e0; rw [hv.z.1] at hn; cases hn
      · by_cases e1 : id = 1
        · subst e1; rw [hv.z.2] at hn; cases hn
        · omega
    exact .inr (.inr ⟨j, id, _, hj, by rw [← hv.st j hj]; exact h0, fun q hqj => by rw [← hv.st q (by omega)]; exact hq q hqj, h2, hi, hn, fun i hii => by rw [← hv.own i (by omega)]; exact ha i hii, he, hs, hv.make j id hj h2 hi kind hk, hg⟩)
/-- Make, of whatever kind. -/
theorem make_vol (h : SV w B g b gs r N M und pg) (hn : n ≤ N) (hv : Vol pg n st kd rt ow) (hM : M + 2 < maxLen) (k : Int) :
    Calls Try.prog 12 #[.pointer (some ⟨g, 0, none⟩), .int .i64 k] w fun e w' =>
      ((k < 1 ∨ 3 < k) ∧ e = .returned (.tuple #[.int .i64 0, .int .i64 1]) ∧ w' = w) ∨ ((1 ≤ k ∧ k ≤ 3) ∧ VMake w B g b gs r N M n und st kd rt ow k.toNat e w') := by
  have hl := hv.lo
  by_cases h1 : k = 1
  · subst h1
    exact (make_1 h (by omega) hn hv.d.k hv.d.ok hv.m hM).mono fun e w' hp => .inr ⟨by omega, vmake hv (by decide) hp⟩
  by_cases h2 : k = 2
  · subst h2
    exact (make_2 h (by omega) hn hv.d.k hv.d.ok hv.m hM).mono fun e w' hp => .inr ⟨by omega, vmake hv (by decide) hp⟩
  by_cases h3 : k = 3
  · subst h3
    exact (make_3 h (by omega) hn hv.d.k hv.d.ok hv.m hM).mono fun e w' hp => .inr ⟨by omega, vmake hv (by decide) hp⟩
  exact (make_bad k w h1 h2 h3).mono fun e w' ⟨a, c⟩ => .inl ⟨by omega, a, c⟩
theorem Vol.there (h : Vol pg n st kd rt ow) (s : Int) : thereP (pg 0) s ↔ (1 ≤ s ∧ s ≤ 6 ∧ st (s - 1).toNat ≠ 0) := by
  unfold thereP
  constructor
  · rintro ⟨a, c, d⟩; exact ⟨a, c, by rw [← h.st _ (by omega)]; exact d⟩
  · rintro ⟨a, c, d⟩; exact ⟨a, c, by rw [h.st _ (by omega)]; exact d⟩
theorem find_vol (h : SV w B g b gs r N M und pg) (hv : Vol pg n st kd rt ow) (s : Int) :
    Calls Try.prog 50 #[.pointer (some ⟨g, 0, none⟩), .int .i64 s] w fun e w' =>
      (¬ (1 ≤ s ∧ s ≤ 6 ∧ st (s - 1).toNat ≠ 0) ∧ e = .returned (.tuple #[.int .i64 0, .int .i64 0, .int .i64 0, .int .i64 190]) ∧ Below w.heap.size w w') ∨
      ((1 ≤ s ∧ s ≤ 6 ∧ st (s - 1).toNat ≠ 0) ∧ e = .returned (.tuple #[.int .i64 (kd (s - 1).toNat), .int .i64 (rt (s - 1).toNat), .int .i64 (st (s - 1).toNat), .int .i64 0]) ∧ Below w.heap.size w w') := by
  refine (find_good h kd rt hv.d s).mono ?_
  rintro e w' (⟨h1, h2, h3⟩ | ⟨h1, h2, h3⟩)
  · exact .inl ⟨fun hx => h1 ((hv.there s).2 hx), h2, h3⟩
  · have hx := (hv.there s).1 h1
    exact .inr ⟨hx, by rw [h2, hv.st _ (by omega)], h3⟩
theorem Vol.state (h : Vol pg n st kd rt ow) (j : Nat) (hj : j < 6) (hs : st j ≠ 0) (x : Int) (hx : x = 1 ∨ x = 2) : Vol (upd pg 0 (setSt (pg 0) j x)) n (put st j x) kd rt ow := by
  have hl := h.lo
  have e1 : (upd pg 0 (setSt (pg 0) j x)) 1 = pg 1 := rfl
  refine ⟨h.d.set j hj (by rw [h.st j hj]; exact hs) hx, by rw [e1]; exact h.m, fun i hi => ?_, fun i hi => by rw [e1]; exact h.own i hi, fun i h2 hi y hy => ?_, h.z⟩
  · show (if i = j then (⟨x, ((pg 0).c j).d⟩ : Ce) else (pg 0).c i).st = _
    unfold put
    by_cases e : i = j
    · rw [if_pos e, if_pos e]
    · rw [if_neg e, if_neg e]; exact h.st i hi
  · unfold upd; rw [if_neg (by omega)]; exact h.s i h2 hi y hy
def owF (ow : Nat → Option Int) (s : Int) : Nat → Option Int := fun i => if 2 ≤ i ∧ ow i = some s then none else ow i
theorem Vol.forget (h : Vol pg n st kd rt ow) (s : Int) (j : Nat) (hj : j < 6) : Vol (upd (upd pg 1 (fgt pg s (pg 1) n)) 0 (putC (pg 0) j ⟨0, ⟨#[]⟩⟩)) n (put st j 0) kd rt (owF ow s) := by
  have hl := h.lo
  have e1 : (upd (upd pg 1 (fgt pg s (pg 1) n)) 0 (putC (pg 0) j ⟨0, ⟨#[]⟩⟩)) 1 = fgt pg s (pg 1) n := rfl
  refine ⟨h.d.gone j, by rw [e1]; exact fgt_ok h.m pg s n, fun i hi => ?_, fun i hi => ?_, fun i h2 hi y hy => ?_, ?_⟩
  · show (if i = j then (⟨0, ⟨#[]⟩⟩ : Ce) else (pg 0).c i).st = _
    unfold put
    by_cases e : i = j
    · rw [if_pos e, if_pos e]
    · rw [if_neg e, if_neg e]; exact h.st i hi
  · rw [e1, fgt_own h.m pg s i (by omega) n (by omega), h.own i hi]
    unfold owF
    by_cases h2 : 2 ≤ i
    · cases ho : ow i with
      | none => simp [ho]
      | some x =>
        have hx := h.s i h2 hi x ho
        simp [h2, hi, hx]
        by_cases e : x = s
        · simp [e]
        · simp [e]
    · simp [h2]
  · unfold upd
    rw [if_neg (by omega), if_neg (by omega)]
    unfold owF at hy
    split at hy
    · cases hy
    · exact h.s i h2 hi y hy
  · unfold owF
    rw [if_neg (by omega), if_neg (by omega)]; exact h.z
theorem Vol.take (h : Vol pg n st kd rt ow) (id : Nat) (h2 : 2 ≤ id) (hid : id < n) : Vol (upd pg 1 (mrk (pg 1) id true)) n st kd rt (put ow id (some (pg id).s)) := by
  have hl := h.lo
  have e1 : (upd pg 1 (mrk (pg 1) id true)) 1 = mrk (pg 1) id true := rfl
  refine ⟨h.d, by rw [e1]; exact h.m.mrk id true, h.st, fun i hi => ?_, fun i h2 hi y hy => ?_, ?_⟩
  · rw [e1, mrk_own h.m.ch _ _ _ (by omega)]
    unfold put
    by_cases e : i = id
    · rw [if_pos e, if_pos e]; rfl
    · rw [if_neg e, if_neg e]; exact h.own i hi
  · unfold upd
    rw [if_neg (by omega)]
    unfold put at hy
    by_cases e : i = id
    · rw [if_pos e] at hy
      injection hy with hy
      rw [e]; exact hy
    · rw [if_neg e] at hy
      exact h.s i h2 hi y hy
  · rw [put_ne _ _ (by omega), put_ne _ _ (by omega)]; exact h.z
theorem take_vol (h : SV w B g b gs r N M und pg) (hn : n ≤ N) (hv : Vol pg n st kd rt ow) (hM : M < maxLen) :
    Calls Try.prog 28 #[.pointer (some ⟨g, 0, none⟩)] w fun e w' =>
      ((∀ i, i < n → (ow i).isSome = true) ∧ e = .returned (.tuple #[.int .i64 0, .int .i64 140]) ∧ Below w.heap.size w w') ∨
      (∃ (id : Nat) (x : Int) (pg' : Nat → Pg), 2 ≤ id ∧ id < n ∧ ow id = none ∧ (∀ i, i < id → (ow i).isSome = true) ∧ e = .returned (.tuple #[.int .i64 id, .int .i64 0]) ∧ SV w' B g b gs r N (M + 1) und pg' ∧ Vol pg' n st kd rt (put ow id (some x)) ∧ w.grownBy w' (some b)) := by
  have hl := hv.lo
  refine (take_good h (by omega) hv.m hM).mono ?_
  rintro e w' (⟨h1, h2, h3⟩ | ⟨id, h1, h2, h3, h4, h5, h6⟩)
  · exact .inl ⟨fun i hi => by rw [← hv.own i hi]; exact h1 i hi, h2, h3⟩
  · rw [hv.own id h1] at h2
    have hn : ow id = none := by cases ho : ow id with | none => rfl | some x => rw [ho] at h2; cases h2
    have h22 : 2 ≤ id := by
      by_cases e0 : id = 0
      · subst e0; rw [hv.z.1] at hn; cases hn
      · by_cases e1 : id = 1
        · subst e1; rw [hv.z.2] at hn; cases hn
        · omega
    exact .inr ⟨id, _, _, h22, h1, hn, fun i hi => by rw [← hv.own i (by omega)]; exact h3 i hi, h4, h5, hv.take id h22 h1, h6⟩
theorem Vol.give (h : Vol pg n st kd rt ow) (id : Nat) (h2 : 2 ≤ id) (hid : id < n) : Vol (upd pg 1 (mrk (pg 1) id false)) n st kd rt (put ow id none) := by
  have hl := h.lo
  have e1 : (upd pg 1 (mrk (pg 1) id false)) 1 = mrk (pg 1) id false := rfl
  refine ⟨h.d, by rw [e1]; exact h.m.mrk id false, h.st, fun i hi => ?_, fun i h2 hi y hy => ?_, ?_⟩
  · rw [e1, mrk_own h.m.ch _ _ _ (by omega)]
    unfold put
    by_cases e : i = id
    · rw [if_pos e, if_pos e]; rfl
    · rw [if_neg e, if_neg e]; exact h.own i hi
  · unfold upd
    rw [if_neg (by omega)]
    unfold put at hy
    by_cases e : i = id
    · rw [if_pos e] at hy; cases hy
    · rw [if_neg e] at hy
      exact h.s i h2 hi y hy
  · rw [put_ne _ _ (by omega), put_ne _ _ (by omega)]; exact h.z
def owL (ow : Nat → Option Int) (n : Nat) : List Int := ((List.range n).filter fun i => (ow i).isSome).map fun i : Nat => (i : Int)
/-- A page of a store's own is laid at a page that is taken. -/
theorem Vol.lay (h : Vol pg n st kd rt ow) (id : Nat) (h2 : 2 ≤ id) (p : Pg) : Vol (upd pg id p) n st kd rt (if (ow id).isSome then put ow id (some p.s) else ow) := by
  have hl := h.lo
  have e1 : (upd pg id p) 1 = pg 1 := by unfold upd; rw [if_neg (by omega)]
  have e0 : (upd pg id p) 0 = pg 0 := by unfold upd; rw [if_neg (by omega)]
  refine ⟨by rw [e0]; exact h.d, by rw [e1]; exact h.m, fun i hi => by rw [e0]; exact h.st i hi, fun i hi => ?_, fun i h2 hi y hy => ?_, ?_⟩
  · rw [e1, h.own i hi]
    split
    · unfold put
      by_cases e : i = id
      · subst e; rename_i hh; rw [if_pos rfl, hh]; rfl
      · rw [if_neg e]
    · rfl
  · unfold upd
    by_cases e : i = id
    · subst e
      rw [if_pos rfl]
      split at hy
      · unfold put at hy
        rw [if_pos rfl] at hy
        injection hy
      · rename_i hh
        rw [hy] at hh
        exact absurd rfl hh
    · rw [if_neg e]
      refine h.s i h2 hi y ?_
      split at hy
      · unfold put at hy
        rw [if_neg e] at hy
        exact hy
      · exact hy
  · split
    · rw [put_ne _ _ (by omega), put_ne _ _ (by omega)]; exact h.z
    · exact h.z
end
end Go.Proofs.Ytdhfcjplnbnkdaa
