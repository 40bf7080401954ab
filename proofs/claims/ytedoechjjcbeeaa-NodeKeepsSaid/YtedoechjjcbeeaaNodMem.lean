/- Pages in memory. -/
import Derived.Test.YtedoechjjcbeeaaNodTest
import Derived.Laws.Rows
import Derived.Laws.ResultCell
import Derived.Laws.Tables
import Derived.Laws.CopyOwn
set_option linter.unusedVariables false
set_option linter.unusedSimpArgs false
namespace Go.Proofs.Ytedoechjjcbeeaa
open Go.RowKit

theorem run_loadPage (w : World) (g : Nat) (cs : Array Value) (h : Bk w g 40 cs) (hs : cs.size = 16) : (loadVar 40 ⟨g, 0, none⟩).run Try.prog w = .ok (.agg cs) w :=
  run_loadVar_row w g 40 40 cs (0, 0) _ h Try.underlying40 rfl (by rw [hs]; kernel_rfl)
theorem page_res {fn : Func} {p u : Tmp} (hf : fn.results = #[.cell p 40, .tmp u]) (tmps : Array Value) (w : World) (g : Nat) (cs : Array Value) (h : Bk w g 40 cs) (hs : cs.size = 16) (hp : tmps.getD p undef = .pointer (some ⟨g, 0, none⟩)) :
    (results fn tmps).run Try.prog w = .ok (.tuple #[.agg cs, tmps.getD u undef]) w := by
  rw [results_cell_tmp hf, hp]
  have := run_loadPage w g cs h hs
  simp [asAddr, Sem.run_pure, Result.andThen, this]
theorem load_page {ops : Array Oper} {rest : List Oper} {o : Oper} {a : Act} {w : World} {Q : Exit → Act → World → Prop} (hgd : o.guard = none) (x : Operand) (ho : o.op = .load 40 x) (g : Nat) (p : Pg)
    (hx : a.eval x = .pointer (some ⟨g, 0, none⟩)) (hb : Bk w g 40 p.cs) (h : wpList Try.prog ops Q rest (a.put o.dst (.agg p.cs)) w) : wpList Try.prog ops Q (o :: rest) a w :=
  wpList_load_row hgd 40 x ho g hx 40 p.cs (0, 0) _ hb Try.underlying40 rfl (by rw [show p.cs.size = 16 from rfl]; kernel_rfl) h
theorem store_page {ops : Array Oper} {rest : List Oper} {o : Oper} {a : Act} {w : World} {Q : Exit → Act → World → Prop} (hgd : o.guard = none) (x y : Operand) (ho : o.op = .store 40 x y) (g : Nat) (p q : Pg)
    (hx : a.eval x = .pointer (some ⟨g, 0, none⟩)) (hy : a.eval y = .agg p.cs) (hb : Bk w g 40 q.cs) (h : wpList Try.prog ops Q rest (a.put o.dst undef) (w.setRow g p.cs)) : wpList Try.prog ops Q (o :: rest) a w :=
  wpList_store_row hgd 40 x y ho g p.cs hx hy 40 q.cs hb (by rw [show p.cs.size = 16 from rfl]; kernel_rfl) rfl (by simp [Pg.cs, Value.oneCell']) h
theorem row_bk {w : World} {g : Nat} {p q : Pg} (hb : Bk w g 40 q.cs) : Bk (w.setRow g p.cs) g 40 p.cs := setRow_heap _ _ _ _ _ _ hb
theorem row_far {w : World} {g k : Nat} {t : TypeId} {cs ds : Array Value} (hb : Bk w k t ds) (h : k ≠ g) : Bk (w.setRow g cs) k t ds := (setRow_other w g k cs h).trans hb
def Pg.zero : Pg := ⟨0, 0, 0, 0, fun _ => ⟨0, ⟨#[]⟩⟩⟩
theorem pg_head {w : World} {g : Nat} {p : Pg} (h : Bk w g 40 p.cs) :
    w.cell? ⟨g, 0, none⟩ = some (.int .i64 p.k) ∧ w.cell? ⟨g, 1, none⟩ = some (.int .i64 p.l) ∧ w.cell? ⟨g, 2, none⟩ = some (.int .i64 p.s) ∧ w.cell? ⟨g, 3, none⟩ = some (.int .i64 p.n) :=
  ⟨h.cell 0, h.cell 1, h.cell 2, h.cell 3⟩
theorem pg_cell {w : World} {g : Nat} {p : Pg} (h : Bk w g 40 p.cs) (j : Nat) (hj : j < 6) : w.cell? ⟨g, 4 + j * 2, none⟩ = some (.int .i64 (p.c j).st) ∧ w.cell? ⟨g, 4 + j * 2 + 1, none⟩ = some (.string (p.c j).d) := by
  rw [h.cell, h.cell]
  rcases six hj with rfl | rfl | rfl | rfl | rfl | rfl <;> exact ⟨rfl, rfl⟩
theorem idx6 (c : Nat → Ce) (j : Nat) (h : j < 6) (w : World) :
    (Instr.index 38 (.agg #[.int .i64 (c 0).st, .string (c 0).d, .int .i64 (c 1).st, .string (c 1).d, .int .i64 (c 2).st, .string (c 2).d, .int .i64 (c 3).st, .string (c 3).d, .int .i64 (c 4).st, .string (c 4).d, .int .i64 (c 5).st, .string (c 5).d]) (.int .i64 (j : Int))).run Try.prog w = .ok (.agg #[.int .i64 (c j).st, .string (c j).d]) w := by
  rcases six h with rfl | rfl | rfl | rfl | rfl | rfl <;> kernel_rfl
/-- The cells of a page, with another cell at a place. -/
def Pg.set (p : Pg) (i : Nat) (c : Ce) : Pg := { p with c := fun j => if j = i then c else p.c j }
theorem Pg.cs_set (p : Pg) (i : Nat) (hi : i < 6) (c : Ce) : (p.cs.setIfInBounds (4 + i * 2) (.int .i64 c.st)).setIfInBounds (4 + i * 2 + 1) (.string c.d) = (p.set i c).cs := by
  rcases six hi with rfl | rfl | rfl | rfl | rfl | rfl <;> simp [Pg.cs, Pg.set]
theorem Pg.cs_eq {p q : Pg} (h : p.k = q.k ∧ p.l = q.l ∧ p.s = q.s ∧ p.n = q.n ∧ ∀ i, i < 6 → p.c i = q.c i) : p.cs = q.cs := by
  obtain ⟨h1, h2, h3, h4, h5⟩ := h
  unfold Pg.cs
  rw [h1, h2, h3, h4, h5 0 (by omega), h5 1 (by omega), h5 2 (by omega), h5 3 (by omega), h5 4 (by omega), h5 5 (by omega)]
/-- How many cells stand ahead of the first free one. -/
def cntFrom (c : Nat → Ce) : Nat → Nat → Nat
  | 0, i => i
  | f + 1, i => if (c i).st = 0 then i else cntFrom c f (i + 1)
def cnt (c : Nat → Ce) : Nat := cntFrom c 6 0
theorem cntFrom_spec (c : Nat → Ce) : ∀ f i, i ≤ cntFrom c f i ∧ cntFrom c f i ≤ i + f ∧ (∀ q, i ≤ q → q < cntFrom c f i → (c q).st ≠ 0) ∧ (cntFrom c f i < i + f → (c (cntFrom c f i)).st = 0)
  | 0, i => by simp only [cntFrom]; exact ⟨by omega, by omega, fun q h1 h2 => by omega, fun h => by omega⟩
  | f + 1, i => by
    simp only [cntFrom]
    by_cases h : (c i).st = 0
    · rw [if_pos h]; exact ⟨by omega, by omega, fun q h1 h2 => by omega, fun _ => h⟩
    · rw [if_neg h]
      obtain ⟨a, b, d, e⟩ := cntFrom_spec c f (i + 1)
      refine ⟨by omega, by omega, fun q h1 h2 => ?_, fun h2 => e (by omega)⟩
      by_cases hq : q = i
      · rw [hq]; exact h
      · exact d q (by omega) h2
theorem cnt_le (c : Nat → Ce) : cnt c ≤ 6 := by have := cntFrom_spec c 6 0; unfold cnt; omega
theorem cnt_below (c : Nat → Ce) (q : Nat) (h : q < cnt c) : (c q).st ≠ 0 := (cntFrom_spec c 6 0).2.2.1 q (Nat.zero_le _) h
theorem cnt_at (c : Nat → Ce) (h : cnt c < 6) : (c (cnt c)).st = 0 := (cntFrom_spec c 6 0).2.2.2 (by unfold cnt at h; omega)
theorem cnt_eq (c : Nat → Ce) (j : Nat) (hj : j ≤ 6) (h1 : ∀ q, q < j → (c q).st ≠ 0) (h2 : j < 6 → (c j).st = 0) : cnt c = j := by
  rcases Nat.lt_trichotomy (cnt c) j with h | h | h
  · exact absurd (cnt_at c (by omega)) (h1 _ h)
  · exact h
  · exact absurd (h2 (by have := cnt_le c; omega)) (cnt_below c j h)
set_option maxHeartbeats 1000000 in
theorem count_any (p : Pg) (w : World) :
    Calls Try.prog 22 #[p.v] w fun e w' => e = .returned (.int .i64 (cnt p.c : Nat)) ∧ Below w.heap.size w w' := by
  have hcq := cnt_eq p.c
  have HCQ := Lib.hid hcq; clear hcq
  obtain ⟨k, l, s, n, c⟩ := p
  dsimp only at HCQ ⊢
  generalize hC : cnt c = C at HCQ ⊢
  clear hC
  unfold Pg.v Pg.cs
  go_enter Try.func22, Try.ntmps22
  go_wp2_with fail
  have hb := (Below.refl w.heap.size w).alloc (Nat.le_refl _) (.cells #[.int .i64 k, .int .i64 l, .int .i64 s, .int .i64 n, .int .i64 (c 0).st, .string (c 0).d, .int .i64 (c 1).st, .string (c 1).d, .int .i64 (c 2).st, .string (c 2).d, .int .i64 (c 3).st, .string (c 3).d, .int .i64 (c 4).st, .string (c 4).d, .int .i64 (c 5).st, .string (c 5).d] 40)
  generalize w.alloc (.cells #[.int .i64 k, .int .i64 l, .int .i64 s, .int .i64 n, .int .i64 (c 0).st, .string (c 0).d, .int .i64 (c 1).st, .string (c 1).d, .int .i64 (c 2).st, .string (c 2).d, .int .i64 (c 3).st, .string (c 3).d, .int .i64 (c 4).st, .string (c 4).d, .int .i64 (c 5).st, .string (c 5).d] 40) = w1 at *
  go_loopw [7] (fun i wr => ∃ j : Nat, j ≤ 6 ∧ i = .int .i64 j ∧ (∀ q, q < j → (c q).st ≠ 0) ∧ Below w.heap.size w wr) (fun i _ => 6 - (intOf i).toNat)
  case atStart => exact ⟨0, by omega, rfl, (fun q hq => absurd hq (Nat.not_lt_zero _)), hb⟩
  case round =>
    clear hb
    obtain ⟨j, hj, rfl, hq, hb⟩ := hrel
    by_cases hlt : j < 6
    · have ix := fun w => idx6 c j hlt w
      have b2 := fun o => hb.alloc hb.size o
      have HQ := Lib.hid hq; have B2 := Lib.hid b2
      clear hq hb b2
      by_cases h0 : (c j).st = 0
      · have H0 := Lib.hid h0
        go_wp2
        go_ret
        exact ⟨by rw [HCQ.out j (by omega) HQ.out (fun _ => H0.out)]; rfl, B2.out _⟩
      · have q2 : ∀ q, q < j + 1 → (c q).st ≠ 0 := fun q hq => by
          by_cases e : q = j
          · rw [e]; exact h0
          · exact HQ.out q (by omega)
        have Q2 := Lib.hid q2
        clear q2
        have h0' : ((c j).st == 0) = false := by simp [h0]
        go_wp2
        go_roundw
        case rel => exact ⟨j + 1, by omega, by go_num, Q2.out, B2.out _⟩
        case measure => simp [intOf]; omega
    · have HQ := Lib.hid hq; have HB := Lib.hid hb
      clear hq hb
      go_wp2
      go_ret
      exact ⟨by rw [HCQ.out 6 (by omega) (fun q h => HQ.out q (by omega)) (fun h => by omega)]; rfl, HB.out⟩
end Go.Proofs.Ytedoechjjcbeeaa
