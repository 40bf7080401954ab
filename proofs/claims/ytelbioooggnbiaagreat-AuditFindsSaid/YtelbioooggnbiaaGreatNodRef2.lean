/- The walks of package node's tests on cells. Pages in memory. The walks of package node: Find, Down; of the document's own: cells, Count, Find, Down. The walks of the document's own cells, Count, Find, Down; of package node: Down. The walks of the document's own Count, Find, Down; of package node: Down. -/
import Derived.Test.YtelbioooggnbiaaGreatNodCell
import Derived.Test.YtelbioooggnbiaaGreatPgMem
import Derived.Laws.Rows
import Derived.Laws.ResultCell
import Derived.Laws.Tables
import Derived.Laws.CopyOwn
import Derived.WalkSpells
import Derived.WalkLawsBesides
import Derived.Deep.AppendLies
import Derived.Test.YtelbioooggnbiaaGreatApp1
set_option linter.unusedVariables false
set_option linter.unusedSimpArgs false
namespace Go.Proofs.YtelbioooggnbiaaGreat
open Go.RowKit

theorem ba_empty5 (d : ByteArray) : d.toList.isEmpty = decide (d.size = 0) := by
  by_cases h : d.size = 0
  · obtain rfl := (ba_empty_iff d).2 h; simp; rfl
  · rw [decide_eq_false h]
    cases hh : d.toList.isEmpty
    · rfl
    · have h2 := str_ne (fun e => h ((ba_empty_iff d).1 e))
      rw [List.isEmpty_iff.1 hh] at h2
      simp at h2
def leafCellOk (c : Ce) : Prop := c.says ∧ c.key.size ≠ 0 ∧ c.rst.size ≤ 20 ∧ (c.st = 1 ∨ c.st = 2)
instance (c : Ce) : Decidable (leafCellOk c) := by unfold leafCellOk; infer_instance
def innerCellOk (c : Ce) (place : Nat) : Prop := c.st = 1 ∧ c.child ≠ 0 ∧ (c.key.size = 0 ↔ place = 0)
instance (c : Ce) (p : Nat) : Decidable (innerCellOk c p) := by unfold innerCellOk; infer_instance
set_option maxHeartbeats 1000000 in
theorem isleaf_any (c : Ce) (w : World) (hs : c.d.size ≤ maxLen) :
    Calls Tryz.prog 114 #[c.v] w fun e w' => e = .returned (.bool (decide (leafCellOk c))) ∧ Below w.heap.size w w' := by
  have ck := fun w => key_any c w hs
  have hrz := Nat.le_trans c.rst_size hs
  unfold maxLen at hrz
  clear hs
  have hO : decide (leafCellOk c) = (decide c.says && (decide (c.key.size ≠ 0) && (decide (c.rst.size ≤ 20) && decide (c.st = 1 ∨ c.st = 2)))) := by unfold leafCellOk; simp [Bool.decide_and]
  rw [hO]
  clear hO
  have hE := ba_empty5 c.key
  unfold Ce.v at *
  obtain ⟨st, d⟩ := c
  generalize Ce.key ⟨st, d⟩ = K at *
  generalize Ce.rst ⟨st, d⟩ = R at *
  generalize decide (Ce.says ⟨st, d⟩) = O at *
  dsimp only at ck hrz ⊢
  have hbk : Bk (w.alloc (.cells #[.int .i64 st, .string d] 35)) w.heap.size 35 #[.int .i64 st, .string d] := Bk.new _ _ _
  have HBK := Lib.hid hbk
  have CK := Lib.hid ck; clear ck hbk
  cases O
  · simp only [Bool.false_and]
    clear hE
    go_enter Tryz.func114, Tryz.ntmps114
    go_wp2_with fail
    refine (CK.out _).mono ?_
    rintro e w2 ⟨rfl, hb2⟩
    have B2 := Lib.hid (below_then ((Below.refl _ _).alloc (Nat.le_refl _) (.cells #[.int .i64 st, .string d] 35)) hb2 (by simp))
    clear hb2
    go_wp2
    go_ret
    exact ⟨rfl, B2.out⟩
  · by_cases hk : K.size = 0
    · rw [decide_eq_true hk] at hE
      rw [decide_eq_false (show ¬ K.size ≠ 0 by omega)]
      simp only [Bool.false_and, Bool.true_and]
      go_enter Tryz.func114, Tryz.ntmps114
      go_wp2_with fail
      refine (CK.out _).mono ?_
      rintro e w2 ⟨rfl, hb2⟩
      have B2 := Lib.hid (below_then ((Below.refl _ _).alloc (Nat.le_refl _) (.cells #[.int .i64 st, .string d] 35)) hb2 (by simp))
      clear hb2
      go_wp2
      go_ret
      exact ⟨rfl, B2.out⟩
    · rw [decide_eq_false hk] at hE
      rw [decide_eq_true (show K.size ≠ 0 from hk)]
      by_cases h2 : (R.size : Int) ≤ 20
      · rw [decide_eq_true (show R.size ≤ 20 by omega)]
        simp only [Bool.true_and]
        by_cases a1 : st = 1
        · rw [decide_eq_true (show st = 1 ∨ st = 2 from .inl a1)]
          subst a1
          go_enter Tryz.func114, Tryz.ntmps114
          go_wp2_with fail
          refine (CK.out _).mono ?_
          rintro e w2 ⟨rfl, hb2⟩
          have c0 := (HBK.out.kept hb2).cell 0
          simp only [List.getElem?_toArray, List.getElem?_cons_zero] at c0
          have B2 := Lib.hid (below_then ((Below.refl _ _).alloc (Nat.le_refl _) (.cells #[.int .i64 1, .string d] 35)) hb2 (by simp))
          clear hb2
          go_wp2
          go_ret
          exact ⟨rfl, B2.out⟩
        · have a1' : (st == 1) = false := by simp [a1]
          by_cases a2 : st = 2
          · rw [decide_eq_true (show st = 1 ∨ st = 2 from .inr a2)]
            subst a2
            go_enter Tryz.func114, Tryz.ntmps114
            go_wp2_with fail
            refine (CK.out _).mono ?_
            rintro e w2 ⟨rfl, hb2⟩
            have c0 := (HBK.out.kept hb2).cell 0
            simp only [List.getElem?_toArray, List.getElem?_cons_zero] at c0
            have B2 := Lib.hid (below_then ((Below.refl _ _).alloc (Nat.le_refl _) (.cells #[.int .i64 2, .string d] 35)) hb2 (by simp))
            clear hb2
            go_wp2
            go_ret
            exact ⟨rfl, B2.out⟩
          · have a2' : (st == 2) = false := by simp [a2]
            rw [decide_eq_false (show ¬ (st = 1 ∨ st = 2) by omega)]
            go_enter Tryz.func114, Tryz.ntmps114
            go_wp2_with fail
            refine (CK.out _).mono ?_
            rintro e w2 ⟨rfl, hb2⟩
            have c0 := (HBK.out.kept hb2).cell 0
            simp only [List.getElem?_toArray, List.getElem?_cons_zero] at c0
            have B2 := Lib.hid (below_then ((Below.refl _ _).alloc (Nat.le_refl _) (.cells #[.int .i64 st, .string d] 35)) hb2 (by simp))
            clear hb2
            go_wp2
            go_ret
            exact ⟨rfl, B2.out⟩
      · rw [decide_eq_false (show ¬ R.size ≤ 20 by omega)]
        simp only [Bool.false_and, Bool.true_and]
        go_enter Tryz.func114, Tryz.ntmps114
        go_wp2_with fail
        refine (CK.out _).mono ?_
        rintro e w2 ⟨rfl, hb2⟩
        have B2 := Lib.hid (below_then ((Below.refl _ _).alloc (Nat.le_refl _) (.cells #[.int .i64 st, .string d] 35)) hb2 (by simp))
        clear hb2
        go_wp2
        go_ret
        exact ⟨rfl, B2.out⟩
set_option maxHeartbeats 1000000 in
theorem isinner_any (c : Ce) (place : Nat) (w : World) (hs : c.d.size ≤ maxLen) (hp : place ≤ 100) :
    Calls Tryz.prog 115 #[c.v, .int .i64 place] w fun e w' => e = .returned (.bool (decide (innerCellOk c place))) ∧ Below w.heap.size w w' := by
  have cc := fun w => child_any c w hs
  have ck := fun w => keyof_any c w hs
  have hE := ba_empty5 c.key
  have hO : decide (innerCellOk c place) = (decide (c.st = 1) && (decide (c.child ≠ 0) && (decide (c.key.size = 0) == decide (place = 0)))) := by
    unfold innerCellOk
    by_cases h1 : c.st = 1 <;> by_cases h2 : c.child = 0 <;> by_cases h3 : c.key.size = 0 <;> by_cases h4 : place = 0 <;> simp [h1, h2, h3, h4]
  rw [hO]
  clear hO hs
  unfold Ce.v at *
  obtain ⟨st, d⟩ := c
  generalize Ce.key ⟨st, d⟩ = K at *
  generalize Ce.child ⟨st, d⟩ = C at *
  dsimp only at ck cc ⊢
  have hbk : Bk (w.alloc (.cells #[.int .i64 st, .string d] 35)) w.heap.size 35 #[.int .i64 st, .string d] := Bk.new _ _ _
  have HBK := Lib.hid hbk
  have CK := Lib.hid ck; have CC := Lib.hid cc; clear ck hbk cc
  by_cases h1 : st = 1
  · subst h1
    rw [decide_eq_true rfl]
    simp only [Bool.true_and]
    by_cases h2 : C = 0
    · subst h2
      clear hE
      go_enter Tryz.func115, Tryz.ntmps115
      go_wp2_with fail
      refine (CC.out _).mono ?_
      rintro e w2 ⟨rfl, hb2⟩
      have B2 := Lib.hid (below_then ((Below.refl _ _).alloc (Nat.le_refl _) (.cells #[.int .i64 1, .string d] 35)) hb2 (by simp))
      clear hb2
      go_wp2
      go_ret
      exact ⟨rfl, B2.out⟩
    · rw [decide_eq_true (show C ≠ 0 from h2)]
      simp only [Bool.true_and]
      have h2' : ((C : Int) != 0) = true := by simp; omega
      have hP : ((place : Int) == 0) = decide (place = 0) := by by_cases h : place = 0 <;> simp [h]
      clear h2
      generalize decide (place = 0) = Z at *
      generalize decide (K.size = 0) = Y at *
      go_enter Tryz.func115, Tryz.ntmps115
      go_wp2_with fail
      refine (CC.out _).mono ?_
      rintro e w2 ⟨rfl, hb2⟩
      have k2 := HBK.out.kept hb2
      have K2 := Lib.hid k2
      have c0 := k2.cell 0; have c1 := k2.cell 1
      simp only [List.getElem?_toArray, List.getElem?_cons_zero, List.getElem?_cons_succ] at c0 c1
      have B2 := Lib.hid (below_then ((Below.refl _ _).alloc (Nat.le_refl _) (.cells #[.int .i64 1, .string d] 35)) hb2 (by simp))
      clear hb2 k2
      go_wp2_with fail
      refine (CK.out _).mono ?_
      rintro e w3 ⟨rfl, hb3⟩
      have B3 := Lib.hid (below_then B2.out hb3 B2.out.size)
      clear hb3 B2
      cases Y <;> cases Z
      all_goals
        go_wp2
        go_ret
        exact ⟨rfl, B3.out⟩
  · rw [decide_eq_false h1]
    simp only [Bool.false_and]
    have h1' : (st == 1) = false := by simp [h1]
    clear hE
    go_enter Tryz.func115, Tryz.ntmps115
    go_wp2
    go_ret
    exact ⟨rfl, (Below.refl _ _).alloc (Nat.le_refl _) _⟩
end Go.Proofs.YtelbioooggnbiaaGreat
namespace Go.Proofs.YtelbioooggnbiaaGreat
open Go.RowKit

theorem pg_head {w : World} {g : Nat} {p : Pg} (h : Bk w g 38 p.cs) :
    w.cell? ⟨g, 0, none⟩ = some (.int .i64 p.k) ∧ w.cell? ⟨g, 1, none⟩ = some (.int .i64 p.l) ∧ w.cell? ⟨g, 2, none⟩ = some (.int .i64 p.s) ∧ w.cell? ⟨g, 3, none⟩ = some (.int .i64 p.n) :=
  ⟨h.cell 0, h.cell 1, h.cell 2, h.cell 3⟩
theorem pg_cell {w : World} {g : Nat} {p : Pg} (h : Bk w g 38 p.cs) (j : Nat) (hj : j < 6) : w.cell? ⟨g, 4 + j * 2, none⟩ = some (.int .i64 (p.c j).st) ∧ w.cell? ⟨g, 4 + j * 2 + 1, none⟩ = some (.string (p.c j).d) := by
  rw [h.cell, h.cell]
  rcases six hj with rfl | rfl | rfl | rfl | rfl | rfl <;> exact ⟨rfl, rfl⟩
theorem nidx6 (c : Nat → Ce) (j : Nat) (h : j < 6) (w : World) :
    (Instr.index 36 (.agg #[.int .i64 (c 0).st, .string (c 0).d, .int .i64 (c 1).st, .string (c 1).d, .int .i64 (c 2).st, .string (c 2).d, .int .i64 (c 3).st, .string (c 3).d, .int .i64 (c 4).st, .string (c 4).d, .int .i64 (c 5).st, .string (c 5).d]) (.int .i64 (j : Int))).run Tryz.prog w = .ok (.agg #[.int .i64 (c j).st, .string (c j).d]) w := by
  rcases six h with rfl | rfl | rfl | rfl | rfl | rfl <;> kernel_rfl
/-- The cells of a page, with another cell at a place. -/
def Pg.set (p : Pg) (i : Nat) (c : Ce) : Pg := { p with c := fun j => if j = i then c else p.c j }
theorem Pg.cs_set (p : Pg) (i : Nat) (hi : i < 6) (c : Ce) : (p.cs.setIfInBounds (4 + i * 2) (.int .i64 c.st)).setIfInBounds (4 + i * 2 + 1) (.string c.d) = (p.set i c).cs := by
  rcases six hi with rfl | rfl | rfl | rfl | rfl | rfl <;> simp [Pg.cs, Pg.set]
/-- How many cells stand ahead of the first free one. -/
def cntFrom (c : Nat → Ce) : Nat → Nat → Nat
  | 0, i => i
  | f + 1, i => if (c i).st = 0 then i else cntFrom c f (i + 1)
def cnt (c : Nat → Ce) : Nat := cntFrom c 6 0
theorem cntFrom_spec (c : Nat → Ce) : ∀ f i, i ≤ cntFrom c f i ∧ cntFrom c f i ≤ i + f ∧ (∀ q, i ≤ q → q < cntFrom c f i → (c q).st ≠ 0) ∧ (cntFrom c f i < i + f → (c (cntFrom c f i)).st = 0)
  | 0, i => by simp only [cntFrom]; exact ⟨by omega, by omega, fun q h1 h2 => by omega, fun h => by omega⟩
  | f + 1, i => by
    simp only [cntFrom]
    by_cases h : (c i).st = 0
    · rw [if_pos h]; exact ⟨by omega, by omega, fun q h1 h2 => by omega, fun _ => h⟩
    · rw [if_neg h]
      obtain ⟨a, b, d, e⟩ := cntFrom_spec c f (i + 1)
      refine ⟨by omega, by omega, fun q h1 h2 => ?_, fun h2 => e (by omega)⟩
      by_cases hq : q = i
      · rw [hq]; exact h
      · exact d q (by omega) h2
theorem cnt_le (c : Nat → Ce) : cnt c ≤ 6 := by have := cntFrom_spec c 6 0; unfold cnt; omega
theorem cnt_below (c : Nat → Ce) (q : Nat) (h : q < cnt c) : (c q).st ≠ 0 := (cntFrom_spec c 6 0).2.2.1 q (Nat.zero_le _) h
theorem cnt_at (c : Nat → Ce) (h : cnt c < 6) : (c (cnt c)).st = 0 := (cntFrom_spec c 6 0).2.2.2 (by unfold cnt at h; omega)
theorem cnt_eq (c : Nat → Ce) (j : Nat) (hj : j ≤ 6) (h1 : ∀ q, q < j → (c q).st ≠ 0) (h2 : j < 6 → (c j).st = 0) : cnt c = j := by
  rcases Nat.lt_trichotomy (cnt c) j with h | h | h
  · exact absurd (cnt_at c (by omega)) (h1 _ h)
  · exact h
  · exact absurd (h2 (by have := cnt_le c; omega)) (cnt_below c j h)
set_option maxHeartbeats 1000000 in
theorem ncount_any (p : Pg) (w : World) :
    Calls Tryz.prog 56 #[p.v] w fun e w' => e = .returned (.int .i64 (cnt p.c : Nat)) ∧ Below w.heap.size w w' := by
  have hcq := cnt_eq p.c
  have HCQ := Lib.hid hcq; clear hcq
  obtain ⟨k, l, s, n, c⟩ := p
  dsimp only at HCQ ⊢
  generalize hC : cnt c = C at HCQ ⊢
  clear hC
  unfold Pg.v Pg.cs
  go_enter Tryz.func56, Tryz.ntmps56
  go_wp2_with fail
  have hb := (Below.refl w.heap.size w).alloc (Nat.le_refl _) (.cells #[.int .i64 k, .int .i64 l, .int .i64 s, .int .i64 n, .int .i64 (c 0).st, .string (c 0).d, .int .i64 (c 1).st, .string (c 1).d, .int .i64 (c 2).st, .string (c 2).d, .int .i64 (c 3).st, .string (c 3).d, .int .i64 (c 4).st, .string (c 4).d, .int .i64 (c 5).st, .string (c 5).d] 38)
  generalize w.alloc (.cells #[.int .i64 k, .int .i64 l, .int .i64 s, .int .i64 n, .int .i64 (c 0).st, .string (c 0).d, .int .i64 (c 1).st, .string (c 1).d, .int .i64 (c 2).st, .string (c 2).d, .int .i64 (c 3).st, .string (c 3).d, .int .i64 (c 4).st, .string (c 4).d, .int .i64 (c 5).st, .string (c 5).d] 38) = w1 at *
  go_loopw [7] (fun i wr => ∃ j : Nat, j ≤ 6 ∧ i = .int .i64 j ∧ (∀ q, q < j → (c q).st ≠ 0) ∧ Below w.heap.size w wr) (fun i _ => 6 - (RowKit.intOf i).toNat)
  case atStart => exact ⟨0, by omega, rfl, (fun q hq => absurd hq (Nat.not_lt_zero _)), hb⟩
  case round =>
    clear hb
    obtain ⟨j, hj, rfl, hq, hb⟩ := hrel
    by_cases hlt : j < 6
    · have ix := fun w => nidx6 c j hlt w
      have b2 := fun o => hb.alloc hb.size o
      have HQ := Lib.hid hq; have B2 := Lib.hid b2
      clear hq hb b2
      by_cases h0 : (c j).st = 0
      · have H0 := Lib.hid h0
        go_wp2
        go_ret
        exact ⟨by rw [HCQ.out j (by omega) HQ.out (fun _ => H0.out)]; rfl, B2.out _⟩
      · have q2 : ∀ q, q < j + 1 → (c q).st ≠ 0 := fun q hq => by
          by_cases e : q = j
          · rw [e]; exact h0
          · exact HQ.out q (by omega)
        have Q2 := Lib.hid q2
        clear q2
        have h0' : ((c j).st == 0) = false := by simp [h0]
        go_wp2
        go_roundw
        case rel => exact ⟨j + 1, by omega, by go_num, Q2.out, B2.out _⟩
        case measure => simp [RowKit.intOf]; omega
    · have HQ := Lib.hid hq; have HB := Lib.hid hb
      clear hq hb
      go_wp2
      go_ret
      exact ⟨by rw [HCQ.out 6 (by omega) (fun q h => HQ.out q (by omega)) (fun h => by omega)]; rfl, HB.out⟩
end Go.Proofs.YtelbioooggnbiaaGreat
namespace Go.Proofs.YtelbioooggnbiaaGreat
open Go.RowKit

def Sz (c : Nat → Ce) : Prop := ∀ i, i < 6 → (c i).d.size ≤ maxLen
def slt (a b : ByteArray) : Bool := Op.bytesLess a.toList b.toList
def seq (a b : ByteArray) : Bool := a.toList == b.toList
/-- The first place from which on L no longer holds. -/
def fndFrom (L : Nat → Bool) : Nat → Nat → Nat
  | 0, i => i
  | f + 1, i => if L i = false then i else fndFrom L f (i + 1)
def fnd (L : Nat → Bool) (n : Nat) : Nat := fndFrom L n 0
theorem fndFrom_spec (L : Nat → Bool) : ∀ f i, i ≤ fndFrom L f i ∧ fndFrom L f i ≤ i + f ∧ (∀ q, i ≤ q → q < fndFrom L f i → L q = true) ∧ (fndFrom L f i < i + f → L (fndFrom L f i) = false)
  | 0, i => by simp only [fndFrom]; exact ⟨by omega, by omega, fun q h1 h2 => by omega, fun h => by omega⟩
  | f + 1, i => by
    simp only [fndFrom]
    by_cases h : L i = false
    · rw [if_pos h]; exact ⟨by omega, by omega, fun q h1 h2 => by omega, fun _ => h⟩
    · rw [if_neg h]
      obtain ⟨a, b, d, e⟩ := fndFrom_spec L f (i + 1)
      refine ⟨by omega, by omega, fun q h1 h2 => ?_, fun h2 => e (by omega)⟩
      by_cases hq : q = i
      · rw [hq]; simpa using h
      · exact d q (by omega) h2
theorem fnd_le (L : Nat → Bool) (n : Nat) : fnd L n ≤ n := by have := fndFrom_spec L n 0; unfold fnd; omega
theorem fnd_below (L : Nat → Bool) (n q : Nat) (h : q < fnd L n) : L q = true := (fndFrom_spec L n 0).2.2.1 q (Nat.zero_le _) h
theorem fnd_at (L : Nat → Bool) (n : Nat) (h : fnd L n < n) : L (fnd L n) = false := (fndFrom_spec L n 0).2.2.2 (by unfold fnd at h; omega)
theorem fnd_eq (L : Nat → Bool) (n j : Nat) (hj : j ≤ n) (h1 : ∀ q, q < j → L q = true) (h2 : j < n → L j = false) : fnd L n = j := by
  rcases Nat.lt_trichotomy (fnd L n) j with h | h | h
  · have := fnd_at L n (by omega); rw [h1 _ h] at this; cases this
  · exact h
  · have := fnd_below L n j h; rw [h2 (by have := fnd_le L n; omega)] at this; cases this
def fAt (p : Pg) (key : ByteArray) : Nat := fnd (fun j => slt (p.c j).key key) (cnt p.c)
def fThere (p : Pg) (key : ByteArray) : Bool := decide (fAt p key < cnt p.c) && seq (p.c (fAt p key)).key key
theorem fAt_le (p : Pg) (key : ByteArray) : fAt p key ≤ cnt p.c := fnd_le _ _
def fDown (p : Pg) (key : ByteArray) : Nat := if fThere p key then fAt p key else fAt p key - 1
/-- What Find answers. -/
def IsFnd (p : Pg) (key : ByteArray) (j : Nat) (b : Bool) : Prop := j = fAt p key ∧ b = fThere p key
theorem isFnd_at (p : Pg) (key : ByteArray) (j : Nat) (hj : j < cnt p.c) (h1 : ∀ q, q < j → slt (p.c q).key key = true) (h2 : slt (p.c j).key key = false) : IsFnd p key j (seq (p.c j).key key) := by
  have e : fAt p key = j := fnd_eq _ _ j (by omega) h1 (fun _ => h2)
  refine ⟨e.symm, ?_⟩
  unfold fThere
  rw [e, decide_eq_true hj, Bool.true_and]
theorem isFnd_none (p : Pg) (key : ByteArray) (h1 : ∀ q, q < cnt p.c → slt (p.c q).key key = true) : IsFnd p key (cnt p.c) false := by
  have e : fAt p key = cnt p.c := fnd_eq _ _ _ (Nat.le_refl _) h1 (fun h => by omega)
  refine ⟨e.symm, ?_⟩
  unfold fThere
  rw [e, decide_eq_false (by omega), Bool.false_and]

set_option maxHeartbeats 2000000 in
theorem find_any (p : Pg) (key : ByteArray) (w : World) (hs : Sz p.c) :
    Calls Tryz.prog 81 #[p.v, .string key] w fun e w' => ∃ (j : Nat) (b : Bool), e = .returned (.tuple #[.int .i64 j, .bool b]) ∧ IsFnd p key j b ∧ Below w.heap.size w w' := by
  have CC := Lib.hid (fun w => ncount_any p w)
  have IA := Lib.hid (isFnd_at p key); have IN := Lib.hid (isFnd_none p key)
  have HS := Lib.hid hs
  have hn := cnt_le p.c
  clear hs
  generalize cnt p.c = n at *
  generalize hF : IsFnd p key = F at *
  clear hF
  unfold Pg.v
  go_enter Tryz.func81, Tryz.ntmps81
  go_wp2_with (refine load_page rfl _ rfl w.heap.size p rfl (Bk.new _ _ _) ?_)
  refine (CC.out _).mono ?_
  rintro e w2 ⟨rfl, hb2⟩
  have K2 := Lib.hid ((Bk.new w 38 p.cs).kept hb2)
  have B2 := Lib.hid (below_then ((Below.refl _ _).alloc (Nat.le_refl _) (.cells p.cs 38)) hb2 (by simp))
  clear hb2 CC
  go_wp2_with fail
  go_loopw [12] (fun x wr => ∃ j : Nat, j ≤ n ∧ x = .int .i64 j ∧ (∀ q, q < j → slt (p.c q).key key = true) ∧ Bk wr w.heap.size 38 p.cs ∧ Below w.heap.size w wr) (fun x _ => n - (RowKit.intOf x).toNat)
  case atStart => exact ⟨0, by omega, rfl, (fun q hq => absurd hq (Nat.not_lt_zero _)), K2.out, B2.out⟩
  case round =>
    clear B2 K2
    obtain ⟨j, hj, rfl, hq, hk, hb⟩ := hrel
    have HQ := Lib.hid hq; have HK := Lib.hid hk; have HB := Lib.hid hb
    clear hq hk hb
    by_cases hlt : j < n
    · obtain ⟨y0, y1⟩ := pg_cell HK.out j (by omega)
      have ck := fun w => keyof_any (p.c j) w (HS.out j (by omega))
      have q1 := IA.out j hlt HQ.out
      have q2 : slt (p.c j).key key = true → ∀ q, q < j + 1 → slt (p.c q).key key = true := fun h q hq => by
        by_cases e : q = j
        · rw [e]; exact h
        · exact HQ.out q (by omega)
      have Q1 := Lib.hid q1; have Q2 := Lib.hid q2
      clear q1 q2
      unfold Ce.v at ck
      have CK := Lib.hid ck
      clear ck
      generalize (p.c j).st = st at *
      generalize (p.c j).d = d at *
      generalize (p.c j).key = K at *
      go_wp2_with fail
      refine (CK.out _).mono ?_
      rintro e w3 ⟨rfl, hb3⟩
      have K3 := Lib.hid (HK.out.kept hb3)
      have B3 := Lib.hid (below_then HB.out hb3 HB.out.size)
      clear hb3 HK HB CK y0 y1
      by_cases hl : slt K key = true
      · have hl' : Op.bytesLess K.toList key.toList = true := hl
        have R2 := Lib.hid (Q2.out hl)
        clear Q1 Q2 hl
        go_wp2
        go_roundw
        case rel => exact ⟨j + 1, by omega, by go_num, R2.out, K3.out, B3.out⟩
        case measure => simp [RowKit.intOf]; omega
      · have hl0 : slt K key = false := by simpa using hl
        have hl' : Op.bytesLess K.toList key.toList = false := hl0
        have R1 := Lib.hid (Q1.out hl0)
        clear Q1 Q2 hl hl0
        go_wp2
        go_ret2
        exact ⟨j, _, rfl, R1.out, B3.out⟩
    · obtain rfl : j = n := by omega
      have R1 := Lib.hid (IN.out HQ.out)
      go_wp2
      go_ret2
      exact ⟨j, _, rfl, R1.out, HB.out⟩
end Go.Proofs.YtelbioooggnbiaaGreat
namespace Go.Proofs.YtelbioooggnbiaaGreat
open Go.RowKit

def cellsL (c : Nat → Ce) : Nat → List Value
  | 0 => []
  | n + 1 => cellsL c n ++ (c n).cs
theorem cellsL_length (c : Nat → Ce) : ∀ n, (cellsL c n).length = n * 2
  | 0 => rfl
  | n + 1 => by simp only [cellsL, List.length_append, cellsL_length c n, Ce.cs, List.length_cons, List.length_nil]; omega
theorem cellsL_get (c : Nat → Ce) : ∀ n j, j < n → (cellsL c n)[j * 2]? = some (.int .i64 (c j).st) ∧ (cellsL c n)[j * 2 + 1]? = some (.string (c j).d)
  | n + 1, j, h => by
    have hl := cellsL_length c n
    simp only [cellsL]
    by_cases e : j = n
    · subst e
      rw [List.getElem?_append_right (by omega), List.getElem?_append_right (by omega), hl]
      simp [Ce.cs]
    · rw [List.getElem?_append_left (by omega), List.getElem?_append_left (by omega)]
      exact cellsL_get c n j (by omega)
theorem cellsL_congr {c d : Nat → Ce} : ∀ {n}, (∀ j, j < n → c j = d j) → cellsL c n = cellsL d n
  | 0, _ => rfl
  | n + 1, h => by simp only [cellsL]; rw [cellsL_congr fun j hj => h j (by omega), h n (by omega)]
/-- A slice of the call's own that holds the first n cells. -/
def CRow (w : World) (B : Nat) (a : Option Addr) (n cap : Nat) (c : Nat → Ce) : Prop := w.ownsRow B 35 2 (.slice a n cap) n (cellsL c n)
namespace CRow
variable {w w' : World} {B n cap : Nat} {a : Option Addr} {c : Nat → Ce}
theorem nil (w : World) (B : Nat) (c : Nat → Ce) : CRow w B none 0 0 c := World.ownsRow_nil _ _ _ _
theorem form (h : CRow w B a n cap c) (hn : 0 < n) : ∃ g, a = some ⟨g, 0, none⟩ ∧ B ≤ g ∧ g < w.heap.size := by
  obtain ⟨g, cap', hv, h1, h2⟩ := World.ownsRow.form h hn
  exact ⟨g, by injection hv, h1, h2⟩
theorem blk (h : CRow w B a n cap c) {k : Nat} (hk : (Value.slice a n cap).ownBlock = some k) : B ≤ k ∧ k < w.heap.size := World.ownsRow.lt h k hk
theorem cell {g : Nat} (h : CRow w B (some ⟨g, 0, none⟩) n cap c) {j : Nat} (hj : j < n) : w.cell? ⟨g, j * 2, none⟩ = some (.int .i64 (c j).st) ∧ w.cell? ⟨g, j * 2 + 1, none⟩ = some (.string (c j).d) := by
  have hg := cellsL_get c n j hj
  have h1 := World.ownsRow.cells h (g := g) rfl (j * 2) _ hg.1
  have h2 := World.ownsRow.cells h (g := g) rfl (j * 2 + 1) _ hg.2
  rw [Addr.add_lit, Nat.zero_add] at h1 h2
  exact ⟨h1, h2⟩
theorem of_block (h : CRow w B a n cap c) (hb : ∀ k, (Value.slice a n cap).ownBlock = some k → w'.heap[k]? = w.heap[k]?) : CRow w' B a n cap c := by
  obtain ⟨h1, h2⟩ := h
  refine ⟨h1, ?_⟩
  rcases h2 with h | ⟨g, cap, cur, hv, hg, hh, r⟩
  · exact .inl h
  · exact .inr ⟨g, cap, cur, hv, hg, (hb g (by rw [hv]; rfl)).trans hh, r⟩
theorem below {B' : Nat} (h : CRow w B a n cap c) (hb : Below B' w w') (hB : w.heap.size ≤ B') : CRow w' B a n cap c := h.of_block fun k hk => hb.block k (by have := (h.blk hk).2; omega)
theorem kept (h : CRow w B a n cap c) (hb : Below w.heap.size w w') : CRow w' B a n cap c := h.below hb (Nat.le_refl _)
theorem alloc (h : CRow w B a n cap c) (o : Obj) : CRow (w.alloc o) B a n cap c := World.ownsRow.alloc h o
theorem low {B' : Nat} (h : CRow w B a n cap c) (hb : B' ≤ B) : CRow w B' a n cap c := by
  obtain ⟨h1, h2⟩ := h
  refine ⟨h1, ?_⟩
  rcases h2 with h | ⟨g, cap, cur, hv, hg, hh, r⟩
  · exact .inl h
  · exact .inr ⟨g, cap, cur, hv, by omega, hh, r⟩
end CRow
theorem Tryz.infoCell : (Tryz.prog.info? 35).map (fun i => (i.zero, i.size, i.bytes)) = some (some (.agg #[.int .i64 0, .string ⟨#[]⟩]), 2, 24) := by kernel_rfl
theorem below_grow {B : Nat} {a b c : World} {row : Option Nat} (h : Below B a b) (k : b.grownBy c row) (hg : ∀ j, row = some j → B ≤ j) (hB : B ≤ b.heap.size) : Below B a c :=
  ⟨k.os.trans h.os, k.tape.trans h.tape, k.output.trans h.output, Nat.le_trans h.size k.size, fun i hi => (k.block i (by omega) (fun e => by have := hg i e.symm; omega)).trans (h.block i hi)⟩

end Go.Proofs.YtelbioooggnbiaaGreat
namespace Go.Proofs.YtelbioooggnbiaaGreat
open Go.RowKit

theorem fDown_le (p : Pg) (key : ByteArray) : fDown p key ≤ 6 := by
  have := fAt_le p key; have := cnt_le p.c; unfold fDown; split <;> omega
theorem down_any (p : Pg) (key : ByteArray) (w : World) (hs : Sz p.c) :
    Calls Tryz.prog 107 #[p.v, .string key] w fun e w' => e = .returned (.int .i64 (fDown p key : Nat)) ∧ Below w.heap.size w w' := by
  have CC := Lib.hid (fun w => find_any p key w hs)
  have hd : fDown p key = if fThere p key then fAt p key else fAt p key - 1 := rfl
  have hn : fAt p key ≤ 6 := Nat.le_trans (fAt_le p key) (cnt_le p.c)
  rw [hd]
  unfold IsFnd at CC
  clear hd hs
  generalize fAt p key = j0 at *
  generalize fThere p key = b0 at *
  unfold Pg.v
  go_enter Tryz.func107, Tryz.ntmps107
  go_wp2_with (refine load_page rfl _ rfl w.heap.size p rfl (Bk.new _ _ _) ?_)
  refine (CC.out _).mono ?_
  rintro e w2 ⟨j, b, rfl, ⟨rfl, rfl⟩, hb2⟩
  have B2 := Lib.hid (below_then ((Below.refl _ _).alloc (Nat.le_refl _) (.cells p.cs 38)) hb2 (by simp))
  clear hb2 CC
  cases b
  · simp only [Bool.false_eq_true, if_false]
    by_cases h0 : j = 0
    · subst h0
      go_wp2
      go_ret
      exact ⟨rfl, B2.out⟩
    · have h0' : ((j : Int) == 0) = false := by simp; omega
      obtain ⟨i, rfl⟩ : ∃ i, j = i + 1 := ⟨j - 1, by omega⟩
      go_wp2
      go_ret
      exact ⟨by simp, B2.out⟩
  · simp only [if_true]
    go_wp2
    go_ret
    exact ⟨rfl, B2.out⟩
end Go.Proofs.YtelbioooggnbiaaGreat
