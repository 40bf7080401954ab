/- Layer 16: Get, Set, Cut. Layer 16: Cut. Layer 16: Restore. -/
import Derived.Test.YtelbioooggnbiaaTrW2
set_option linter.unusedVariables false
set_option linter.unusedSimpArgs false
namespace Go.Proofs.Ytelbioooggnbiaa
open Go.RowKit Go.Maps

/-- A key that is live is another one from now on. -/
def ChgP (w : World) (B g b gs r N M n : Nat) (und pg : Nat → Pg) (st : Nat → Int) (kd rt : Nat → Nat) (ow : Nat → Option Int) (sn H : Nat) (lf ids : List Nat) (R : List (ByteArray × Ce)) (ff : Prop) (k : ByteArray) (new : Ce → Ce) (e : Ending) (w' : World) : Prop :=
  ((∀ c, (k, c) ∈ R → c.st ≠ 1) ∧ e = .returned (.tuple #[.agg ud0.cs, .int .i64 150]) ∧ Below w.heap.size w w') ∨
  (∃ (c : Ce) (R' : List (ByteArray × Ce)) (pg' : Nat → Pg), (k, c) ∈ R ∧ c.st = 1 ∧ e = .returned (.tuple #[.agg (udK sn k c).cs, .int .i64 0]) ∧ SV w' B g b gs r N (M + 1) und pg' ∧ Tv pg' n st kd rt ow sn H lf ids R' ff ∧ RSet R R' k (new c) ∧ w.grownBy w' (some b) ∧ ∀ i, i ∉ ids → pg' i = pg i)
theorem live_row {pg : Nat → Pg} {n : Nat} {ow : Nat → Option Int} {sn : Int} {rt H : Nat} {lf ids : List Nat} {R : List (ByteArray × Ce)} {ff : Prop} (h : Ix pg n ow sn rt H lf ids R ff) (k : ByteArray) :
    (liveP (pg (dn pg k rt H)) k ↔ ∃ c, (k, c) ∈ R ∧ c.st = 1) ∧ (¬ liveP (pg (dn pg k rt H)) k → ∀ c, (k, c) ∈ R → c.st ≠ 1) := by
  have ht := h.there k
  unfold liveP
  constructor
  · constructor
    · rintro ⟨h1, h2⟩; exact ⟨_, (ht _).2 ⟨h1, rfl⟩, h2⟩
    · rintro ⟨c, h1, h2⟩
      obtain ⟨h3, h4⟩ := (ht c).1 h1
      exact ⟨h3, by rw [← h4]; exact h2⟩
  · intro hn c hc h1
    obtain ⟨h3, h4⟩ := (ht c).1 hc
    exact hn ⟨h3, by rw [← h4]; exact h1⟩
def GetPost (w : World) (R : List (ByteArray × Ce)) (k : ByteArray) (e : Ending) (w' : World) : Prop :=
  ((¬ keyOk k ∧ e = .returned (.tuple #[.string ⟨#[]⟩, .int .i64 1])) ∨ (keyOk k ∧ ∃ c, (k, c) ∈ R ∧ c.st = 1 ∧ e = .returned (.tuple #[.string c.rst, .int .i64 0])) ∨
    (keyOk k ∧ (∀ c, (k, c) ∈ R → c.st ≠ 1) ∧ e = .returned (.tuple #[.string ⟨#[]⟩, .int .i64 150]))) ∧ Below w.heap.size w w'
def TSetPost (w : World) (B g b gs r N M n : Nat) (und pg : Nat → Pg) (st : Nat → Int) (kd rt : Nat → Nat) (ow : Nat → Option Int) (sn H : Nat) (lf ids : List Nat) (R : List (ByteArray × Ce)) (ff : Prop) (k val : ByteArray) (e : Ending) (w' : World) : Prop :=
  (¬ keyOk k ∧ e = .returned (.tuple #[.agg ud0.cs, .int .i64 1]) ∧ Below w.heap.size w w') ∨ (keyOk k ∧ 20 < val.size ∧ e = .returned (.tuple #[.agg ud0.cs, .int .i64 2]) ∧ Below w.heap.size w w') ∨
  (keyOk k ∧ val.size ≤ 20 ∧ ChgP w B g b gs r N M n und pg st kd rt ow sn H lf ids R ff k (fun _ => ⟨1, dat k val⟩) e w')
/-- What a change of a leaf's cell is, as the index sees it. -/
theorem chg_of {w w' : World} {B g b gs r N M n : Nat} {und pg : Nat → Pg} {st : Nat → Int} {kd rt : Nat → Nat} {ow : Nat → Option Int} {sn H : Nat} {lf ids : List Nat} {R : List (ByteArray × Ce)} {ff : Prop} (ht : Tv pg n st kd rt ow sn H lf ids R ff) (k : ByteArray) (new : Ce → Ce)
    (hl : liveP (pg (dn pg k (rt (sn - 1)) H)) k) (hn : ∀ c, c.key = k → leafCellOk c → leafCellOk (new c) ∧ (new c).key = k)
    (hs : SV w' B g b gs r N (M + 1) und (upd pg (dn pg k (rt (sn - 1)) H) (putC (pg (dn pg k (rt (sn - 1)) H)) (fAt (pg (dn pg k (rt (sn - 1)) H)) k) (new ((pg (dn pg k (rt (sn - 1)) H)).c (fAt (pg (dn pg k (rt (sn - 1)) H)) k)))))) (hg : w.grownBy w' (some b)) :
    ChgP w B g b gs r N M n und pg st kd rt ow sn H lf ids R ff k new (.returned (.tuple #[.agg (udK sn k ((pg (dn pg k (rt (sn - 1)) H)).c (fAt (pg (dn pg k (rt (sn - 1)) H)) k))).cs, .int .i64 0])) w' := by
  have hx := (ht.ix.there k _).2 ⟨hl.1, rfl⟩
  obtain ⟨e1, e2⟩ := ht.ix.row hx
  obtain ⟨n1, n2⟩ := hn _ e1 e2
  obtain ⟨R', h1, h2⟩ := ht.set k hl.1 n1 n2
  refine .inr ⟨_, R', _, hx, hl.2, rfl, hs, h1, h2, hg, fun i hi => upd_ne _ _ fun e => hi ?_⟩
  rw [e]; exact (ht.ix.at_ k H (Nat.le_refl _)).2.1
end Go.Proofs.Ytelbioooggnbiaa
namespace Go.Proofs.Ytelbioooggnbiaa
open Go.RowKit Go.Maps

section
variable {ops : Array Oper} {S : World → Prop} {o : Oper} {a : Act}
theorem held_st (y : Operand) (ho : o.op = .load 95 y) (hw : Region.wanted o (yielded ops a.tmps) = true) (g : Nat) (m : Im)
    (hx : a.eval y = .pointer (some ⟨g, 0, none⟩)) (hS : ∀ w, S w → Bk w g 95 m.cs) : YieldsIf Try.prog ops S o (.agg m.cs) a :=
  held_row 95 _ y ho hw g m.cs Try.underlying95 hS hx fun w h => run_loadVar_row (P := Try.prog) w g 95 95 m.cs (0, 0) _ h Try.underlying95 rfl (by rw [← Array.length_toList, im_len]; kernel_rfl)
theorem held_st_cell (y : Operand) (ho : o.op = .load 41 y) (hw : Region.wanted o (yielded ops a.tmps) = true) (g : Nat) (m : Im) (j : Nat) (hj : j < 6)
    (hx : a.eval y = .pointer (some ⟨g, 5 + j * 2, none⟩)) (hS : ∀ w, S w → Bk w g 95 m.cs) : YieldsIf Try.prog ops S o (.agg #[.int .i64 (m.p.c j).st, .string (m.p.c j).d]) a := by
  have := yieldsIf_load_mid (P := Try.prog) (S := S) hw 41 y ho g (5 + j * 2) hx [.int .i64 (m.p.c j).st, .string (m.p.c j).d] _ (fun w h => st_cell (hS w h) hj) Try.underlying41 rfl (by show _ = some 2; kernel_rfl)
  simpa using this
end
def TCutPost (w : World) (B g b gs r N M n : Nat) (und pg : Nat → Pg) (st : Nat → Int) (kd rt : Nat → Nat) (ow : Nat → Option Int) (sn H : Nat) (lf ids : List Nat) (R : List (ByteArray × Ce)) (ff : Prop) (k : ByteArray) (e : Ending) (w' : World) : Prop :=
  (¬ keyOk k ∧ e = .returned (.tuple #[.agg ud0.cs, .int .i64 1]) ∧ Below w.heap.size w w') ∨ (keyOk k ∧ ChgP w B g b gs r N M n und pg st kd rt ow sn H lf ids R ff k ghostC e w')
end Go.Proofs.Ytelbioooggnbiaa
namespace Go.Proofs.Ytelbioooggnbiaa
open Go.RowKit Go.Maps

section
variable {ops : Array Oper} {rest : List Oper} {o : Oper} {a : Act} {w : World} {Q : Exit → Act → World → Prop}
theorem ud_cell {w : World} {g : Nat} {u : Ud} (h : Bk w g 43 u.cs) : w.rangeAt g 5 [.int .i64 u.c.st, .string u.c.d] := fun i v hv => by
  have hi : i < 2 := (List.getElem?_eq_some_iff.1 hv).1
  rw [h.cell]
  rcases (show i = 0 ∨ i = 1 by omega) with e | e <;> subst e <;> simp at hv <;> subst hv <;> rfl
theorem load_ud_cell (hgd : o.guard = none) (x : Operand) (ho : o.op = .load 41 x) (g : Nat) (u : Ud) (hx : a.eval x = .pointer (some ⟨g, 5, none⟩)) (hb : Bk w g 43 u.cs)
    (h : wpList Try.prog ops Q rest (a.put o.dst (.agg #[.int .i64 u.c.st, .string u.c.d])) w) : wpList Try.prog ops Q (o :: rest) a w :=
  wpList_load_mid hgd 41 x ho g 5 hx [.int .i64 u.c.st, .string u.c.d] _ (ud_cell hb) Try.underlying41 rfl (by show _ = some 2; kernel_rfl) (by simpa using h)
theorem store_ce (hgd : o.guard = none) (x y : Operand) (ho : o.op = .store 41 x y) (g : Nat) (s s' : Int) (d d' : ByteArray) (hx : a.eval x = .pointer (some ⟨g, 0, none⟩)) (hy : a.eval y = .agg #[.int .i64 s, .string d]) (hb : Bk w g 41 #[.int .i64 s', .string d']) (h : wpList Try.prog ops Q rest (a.put o.dst undef) (w.setRow g #[.int .i64 s, .string d])) : wpList Try.prog ops Q (o :: rest) a w :=
  wpList_store_row hgd 41 x y ho g #[.int .i64 s, .string d] hx hy 41 #[.int .i64 s', .string d'] hb (by show _ = some 2; kernel_rfl) rfl (by simp [Value.oneCell']) h
theorem ce_bk {w : World} {g : Nat} {s s' : Int} {d d' : ByteArray} (hb : Bk w g 41 #[.int .i64 s', .string d']) : Bk (w.setRow g #[.int .i64 s, .string d]) g 41 #[.int .i64 s, .string d] := setRow_heap _ _ _ _ _ _ hb
end
/-- What a key's cell is when it is taken back. -/
def backC (c0 c : Ce) : Ce := if c0.st = 0 then ghostC c else c0
def ResPost (w : World) (B g b gs r N M n : Nat) (und pg : Nat → Pg) (st : Nat → Int) (kd rt : Nat → Nat) (ow : Nat → Option Int) (sn H : Nat) (lf ids : List Nat) (R : List (ByteArray × Ce)) (ff : Prop) (k : ByteArray) (c0 : Ce) (e : Ending) (w' : World) : Prop :=
  ((∀ c, (k, c) ∉ R) ∧ e = .returned (.int .i64 150) ∧ Below w.heap.size w w') ∨
  (∃ (c : Ce) (R' : List (ByteArray × Ce)) (pg' : Nat → Pg), (k, c) ∈ R ∧ e = .returned (.int .i64 0) ∧ SV w' B g b gs r N (M + 1) und pg' ∧ Tv pg' n st kd rt ow sn H lf ids R' ff ∧ RSet R R' k (backC c0 c) ∧ w.grownBy w' (some b) ∧ ∀ i, i ∉ ids → pg' i = pg i)
theorem res_of {w w' : World} {B g b gs r N M n : Nat} {und pg : Nat → Pg} {st : Nat → Int} {kd rt : Nat → Nat} {ow : Nat → Option Int} {sn H : Nat} {lf ids : List Nat} {R : List (ByteArray × Ce)} {ff : Prop} (ht : Tv pg n st kd rt ow sn H lf ids R ff) (k : ByteArray) (c0 : Ce) (h0 : c0.st ≠ 0 → leafCellOk c0 ∧ c0.key = k)
    (hl : fThere (pg (dn pg k (rt (sn - 1)) H)) k = true)
    (hs : SV w' B g b gs r N (M + 1) und (upd pg (dn pg k (rt (sn - 1)) H) (putC (pg (dn pg k (rt (sn - 1)) H)) (fAt (pg (dn pg k (rt (sn - 1)) H)) k) (backC c0 ((pg (dn pg k (rt (sn - 1)) H)).c (fAt (pg (dn pg k (rt (sn - 1)) H)) k)))))) (hg : w.grownBy w' (some b)) :
    ResPost w B g b gs r N M n und pg st kd rt ow sn H lf ids R ff k c0 (.returned (.int .i64 0)) w' := by
  have hx := (ht.ix.there k _).2 ⟨hl, rfl⟩
  obtain ⟨e1, e2⟩ := ht.ix.row hx
  obtain ⟨n1, n2⟩ : leafCellOk (backC c0 ((pg (dn pg k (rt (sn - 1)) H)).c (fAt (pg (dn pg k (rt (sn - 1)) H)) k))) ∧ (backC c0 ((pg (dn pg k (rt (sn - 1)) H)).c (fAt (pg (dn pg k (rt (sn - 1)) H)) k))).key = k := by
    unfold backC
    split
    · exact ⟨(ghost_ok e2).1, (ghost_ok e2).2.1.trans e1⟩
    · rename_i h; exact h0 h
  obtain ⟨R', h1, h2⟩ := ht.set k hl n1 n2
  refine .inr ⟨_, R', _, hx, rfl, hs, h1, h2, hg, fun i hi => upd_ne _ _ fun e => hi ?_⟩
  rw [e]; exact (ht.ix.at_ k H (Nat.le_refl _)).2.1
end Go.Proofs.Ytelbioooggnbiaa
