/- Cells appended to a slice of the call's own. -/
import Derived.Test.YtedoechjjcbeeaaNodOver
import Derived.Maps.AppendAt
set_option linter.unusedVariables false
set_option linter.unusedSimpArgs false
namespace Go.Proofs.Ytedoechjjcbeeaa
open Go.RowKit

/-- c ahead, d behind. -/
def joinC (c : Nat → Ce) (n : Nat) (d : Nat → Ce) : Nat → Ce := fun q => if q < n then c q else d (q - n)
theorem cellsL_join (c d : Nat → Ce) (n : Nat) : ∀ m, cellsL (joinC c n d) (n + m) = cellsL c n ++ cellsL d m
  | 0 => by
    simp only [Nat.add_zero, cellsL, List.append_nil]
    exact cellsL_congr fun j hj => by simp [joinC, hj]
  | m + 1 => by
    rw [show n + (m + 1) = n + m + 1 by omega]
    simp only [cellsL]
    rw [cellsL_join c d n m, List.append_assoc]
    have e : joinC c n d (n + m) = d m := by unfold joinC; rw [if_neg (by omega)]; congr 1; omega
    rw [e]
theorem run_append_zero {P : Program} (w : World) (t ty e : TypeId) (i : TypeInfo) (ht : P.underlying t = some (.slice e)) (hi : P.info? e = some i) (a s : Option Addr) (n cap c : Nat) (hn : n ≤ cap) :
    (Builtin.append_ #[t, t] ty #[.slice a n cap, .slice s 0 c]).run P w = .ok (.slice a n cap) w := by
  cases a <;> cases s <;> simp [Builtin.append_, run_underlying ht, sizeOf, typeInfo, hi, Builtin.lenOf, Builtin.firstCells, loadCells, loadCellsFrom, storeCells, hn]
/-- What append leaves. -/
theorem run_append_cells (w : World) (ty : TypeId) (B : Nat) (a : Option Addr) (n cap : Nat) (c d : Nat → Ce) (hr : CRow w B a n cap c) (hB : B ≤ w.heap.size) (s : Option Addr) (m sc : Nat) (hnm : n + m ≤ 12)
    (hs : 0 < m → ∃ g off, s = some ⟨g, off, none⟩ ∧ ∀ j, j < m → w.cell? ⟨g, off + j * 2, none⟩ = some (.int .i64 (d j).st) ∧ w.cell? ⟨g, off + j * 2 + 1, none⟩ = some (.string (d j).d)) :
    ∃ a' cap' w', (Builtin.append_ #[78, 78] ty #[.slice a n cap, .slice s m sc]).run Try.prog w = .ok (.slice a' (n + m) cap') w' ∧ CRow w' B a' (n + m) cap' (joinC c n d) ∧ w.grownBy w' (Value.slice a n cap).ownBlock ∧ (n + m = 0 → a = none → a' = none) := by
  obtain ⟨i0, hi, hz0, hz1, hz2⟩ := info_parts Try.infoCell
  have hncap : n ≤ cap := by
    rcases hr.2 with ⟨hv, h0⟩ | ⟨g, cap', cur, hv, hg, hh, h, _⟩
    · omega
    · injection hv with _ _ e; omega
  by_cases h0 : m = 0
  · subst h0
    refine ⟨a, cap, w, run_append_zero w _ ty 23 i0 Try.underlying78 hi a s n cap sc hncap, ?_, World.grownBy.refl _ _, fun _ h => h⟩
    have := hr
    unfold CRow at this ⊢
    rw [cellsL_join]
    simpa [cellsL] using this
  · obtain ⟨g, off, rfl, hc⟩ := hs (by omega)
    have hl := cellsL_length d m
    obtain ⟨v', w', hrun, h2, h3, _⟩ := run_append_own (P := Try.prog) w B 78 ty 23 i0 (.agg #[.int .i64 0, .string ⟨#[]⟩]) 2 24 Try.underlying78 hi hz0 hz1 hz2 rfl (by decide) (.slice a n cap) n (cellsL c n) hr
      ⟨g, off, none⟩ m sc (cellsL d m) hl (by
        intro j v hv
        have hj : j < m * 2 := by rw [← hl]; exact (List.getElem?_eq_some_iff.1 hv).1
        rw [Addr.add_lit]
        obtain ⟨p, q⟩ := cellsL_get d m (j / 2) (by omega)
        obtain ⟨x, y⟩ := hc (j / 2) (by omega)
        by_cases e : j % 2 = 0
        · rw [show j = j / 2 * 2 by omega, p] at hv
          rw [show off + j = off + j / 2 * 2 by omega, x]
          exact hv
        · rw [show j = j / 2 * 2 + 1 by omega, q] at hv
          rw [show off + j = off + j / 2 * 2 + 1 by omega, y]
          exact hv) (cellsL_one d m) (by unfold maxLen; omega) (by omega) hB
    obtain ⟨a', cap', rfl⟩ : ∃ a' cap', v' = .slice a' (n + m) cap' := by
      rcases h2.2 with ⟨_, e⟩ | ⟨g, cap', _, e, _⟩
      · omega
      · exact ⟨_, _, e⟩
    refine ⟨a', cap', w', hrun, ?_, h3, fun h => by omega⟩
    unfold CRow
    rw [cellsL_join]
    exact h2
theorem wp_append_cells {o : Oper} {a : Act} {w : World} {K : Act → World → Prop} {Q : Exit → Act → World → Prop} (x y : Operand)
    (ho : o.op = .call { callee := .builtin .append, args := #[x, y], argTypes := #[78, 78] })
    (B : Nat) (la : Option Addr) (n cap : Nat) (c d : Nat → Ce) (s : Option Addr) (m sc : Nat) (hx : a.eval x = .slice la n cap) (hy : a.eval y = .slice s m sc) (hr : CRow w B la n cap c) (hB : B ≤ w.heap.size) (hnm : n + m ≤ 12)
    (hs : 0 < m → ∃ g off, s = some ⟨g, off, none⟩ ∧ ∀ j, j < m → w.cell? ⟨g, off + j * 2, none⟩ = some (.int .i64 (d j).st) ∧ w.cell? ⟨g, off + j * 2 + 1, none⟩ = some (.string (d j).d))
    (h : ∀ a' cap' w', CRow w' B a' (n + m) cap' (joinC c n d) → w.grownBy w' (Value.slice la n cap).ownBlock → (n + m = 0 → la = none → a' = none) → K (a.put o.dst (.slice a' (n + m) cap')) w') : o.wp Try.prog a w K Q := by
  obtain ⟨a', cap', w', hrun, h2, h3, h4⟩ := run_append_cells w o.type B la n cap c d hr hB s m sc hnm hs
  unfold Oper.wp execOp
  simp only [ho, resolve, invoke, builtin, Sem.run_bind, Sem.run_pure, Result.andThen_ok, List.map_toArray, List.map_cons, List.map_nil, hx, hy, hrun]
  exact h a' cap' w' h2 h3 h4
theorem wpList_append_cells {ops : Array Oper} {rest : List Oper} {o : Oper} {a : Act} {w : World} {Q : Exit → Act → World → Prop} (hgd : o.guard = none) (x y : Operand)
    (ho : o.op = .call { callee := .builtin .append, args := #[x, y], argTypes := #[78, 78] })
    (B : Nat) (la : Option Addr) (n cap : Nat) (c d : Nat → Ce) (s : Option Addr) (m sc : Nat) (hx : a.eval x = .slice la n cap) (hy : a.eval y = .slice s m sc) (hr : CRow w B la n cap c) (hB : B ≤ w.heap.size) (hnm : n + m ≤ 12)
    (hs : 0 < m → ∃ g off, s = some ⟨g, off, none⟩ ∧ ∀ j, j < m → w.cell? ⟨g, off + j * 2, none⟩ = some (.int .i64 (d j).st) ∧ w.cell? ⟨g, off + j * 2 + 1, none⟩ = some (.string (d j).d))
    (h : ∀ a' cap' w', CRow w' B a' (n + m) cap' (joinC c n d) → w.grownBy w' (Value.slice la n cap).ownBlock → (n + m = 0 → la = none → a' = none) → wpList Try.prog ops Q rest (a.put o.dst (.slice a' (n + m) cap')) w') : wpList Try.prog ops Q (o :: rest) a w :=
  wpList_plain hgd fun _ hK => wp_append_cells x y ho B la n cap c d s m sc hx hy hr hB hnm hs fun a' cap' w' h1 h2 h3 => hK _ _ (h a' cap' w' h1 h2 h3)
/-- l[:i], l[i:] of such a slice. -/
theorem CRow.none_zero {w : World} {B n cap : Nat} {c : Nat → Ce} (h : CRow w B none n cap c) : n = 0 ∧ cap = 0 := by
  rcases h.2 with ⟨hv, h0⟩ | ⟨g, cap', cur, hv, _⟩
  · injection hv with _ _ e; exact ⟨h0, e⟩
  · injection hv with e; cases e
theorem cr_pre {w0 : World} {B n cap : Nat} {a : Option Addr} {c : Nat → Ce} (h : CRow w0 B a n cap c) (i : Nat) (hi : i ≤ n) :
    ∃ p q, (∀ wx, (Instr.slice 78 (.slice a n cap) none (some (.int .i64 (i : Int))) none).run Try.prog wx = .ok (.slice p i q) wx) ∧ (0 < i → ∃ g, p = some ⟨g, 0, none⟩ ∧ a = some ⟨g, 0, none⟩) := by
  have hel : Try.prog.elem 78 = 23 := by kernel_rfl
  obtain ⟨i0, hi0⟩ := info_of_underlying (P := Try.prog) Try.underlying23
  have hncap : n ≤ cap := by
    rcases h.2 with ⟨hv, h0⟩ | ⟨g, cap', cur, hv, hg, hh, h, _⟩
    · omega
    · injection hv with _ _ e; omega
  refine ⟨if cap = 0 then a else a.map (·.add (0 * 2)), cap, fun wx => ?_, fun h0 => ?_⟩
  · rw [run_slice_h wx 78 a n cap (by rw [hel]; exact Try.underlying78) .i64 (i : Int) (by omega) (by omega), hel, run_sizeOf wx hi0]
    simp [sliced, Result.andThen, show Try.prog.cellsOf 23 = 2 from by kernel_rfl]
  · obtain ⟨g, rfl, _, _⟩ := h.form (by omega)
    exact ⟨g, by rw [if_neg (by omega)]; simp [Addr.add_lit], rfl⟩
theorem cr_suf {w0 : World} {B n cap : Nat} {a : Option Addr} {c : Nat → Ce} (h : CRow w0 B a n cap c) (i : Nat) (x : Int) (hx : x = i) (hi : i ≤ n) :
    ∃ p q, (∀ wx, (Instr.slice 78 (.slice a n cap) (some (.int .i64 x)) none none).run Try.prog wx = .ok (.slice p (n - i) q) wx) ∧ (0 < n - i → ∃ g, p = some ⟨g, i * 2, none⟩ ∧ a = some ⟨g, 0, none⟩) := by
  subst hx
  have hel : Try.prog.elem 78 = 23 := by kernel_rfl
  obtain ⟨i0, hi0⟩ := info_of_underlying (P := Try.prog) Try.underlying23
  have hncap : n ≤ cap := by
    rcases h.2 with ⟨hv, h0⟩ | ⟨g, cap', cur, hv, hg, hh, h, _⟩
    · omega
    · injection hv with _ _ e; omega
  refine ⟨if cap = i then a else a.map (·.add (i * 2)), cap - i, fun wx => ?_, fun h0 => ?_⟩
  · rw [run_slice_l wx 78 a n cap (by rw [hel]; exact Try.underlying78) .i64 (i : Int) (by omega) (by omega), hel, run_sizeOf wx hi0]
    simp [sliced, Result.andThen, show Try.prog.cellsOf 23 = 2 from by kernel_rfl]
  · obtain ⟨g, rfl, _, _⟩ := h.form (by omega)
    exact ⟨g, by rw [if_neg (by omega)]; simp [Addr.add_lit], rfl⟩
/-- What is kept of a slice while another one, made later, grows. -/
theorem CRow.grown_far {w w' : World} {B B2 n cap m cap2 : Nat} {a b : Option Addr} {c : Nat → Ce} (h : CRow w B a n cap c) (hg : w.grownBy w' (Value.slice b m cap2).ownBlock) (hne : ∀ k, (Value.slice a n cap).ownBlock = some k → (Value.slice b m cap2).ownBlock ≠ some k) : CRow w' B a n cap c :=
  h.of_block fun k hk => hg.block k (h.blk hk).2 (fun e => hne k hk e.symm)
end Go.Proofs.Ytedoechjjcbeeaa
