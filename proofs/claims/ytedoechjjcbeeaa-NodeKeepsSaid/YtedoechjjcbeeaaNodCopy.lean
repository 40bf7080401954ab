/- copy between the cells of pages. -/
import Derived.Test.YtedoechjjcbeeaaNodRef2
import Derived.Laws.CopyRow
import Derived.Laws.CopyOwn
import Derived.Deep.RegionHeldLaw
set_option linter.unusedVariables false
set_option linter.unusedSimpArgs false
namespace Go.Proofs.Ytedoechjjcbeeaa
open Go.RowKit

theorem run_copy_cells {P : Program} (w : World) (dT sT ty elem : TypeId) (size m g o dLen dCap : Nat) (a : Addr) (sLen sCap : Nat) (cur : Array Value) (t : TypeId) (cs : List Value)
    (hu : P.underlying dT = some (.slice elem)) (hs : (P.info? elem).map (·.size) = some size)
    (hg : w.heap[g]? = some (.cells cur t (0, 0))) (hm : m = Nat.min sLen dLen) (hn : cs.length = m * size)
    (hsrc : ∀ j v, cs[j]? = some v → w.cell? (a.add j) = some v) (hfit : o + cs.length ≤ cur.size) (h1 : ∀ v ∈ cs, v.oneCell' = true) :
    (Builtin.copy_ #[dT, sT] ty #[.slice (some ⟨g, o, none⟩) dLen dCap, .slice (some a) sLen sCap]).run P w =
      .ok (goInt m) (w.setRow g (cur.toList.take o ++ cs ++ cur.toList.drop (o + cs.length)).toArray) := by
  have hl := run_loadCells_list (P := P) w a cs hsrc
  have hst := run_storeCells_at P g o t cs 0 cur w hg (by simpa using hfit) h1
  rw [hn] at hl
  cases hq : P.info? elem with
  | none => simp [hq] at hs
  | some i =>
    have hi : i.size = size := by simpa [hq] using hs
    subst hm
    simp [Builtin.copy_, run_underlying hu, Builtin.lenOf, Builtin.firstCells, sizeOf, typeInfo, hq, hi, hl, hst, hn]
theorem run_copy_zero {P : Program} (w : World) (dT sT ty elem : TypeId) (size : Nat) (dp sp : Option Addr) (dLen dCap sLen sCap : Nat)
    (hu : P.underlying dT = some (.slice elem)) (hs : (P.info? elem).map (·.size) = some size) (hn : Nat.min sLen dLen = 0) :
    (Builtin.copy_ #[dT, sT] ty #[.slice dp dLen dCap, .slice sp sLen sCap]).run P w = .ok (goInt 0) w := by
  cases hq : P.info? elem with
  | none => simp [hq] at hs
  | some i => cases dp <;> cases sp <;> simp [Builtin.copy_, run_underlying hu, Builtin.lenOf, Builtin.firstCells, sizeOf, typeInfo, hq, hn, storeCells, loadCells, loadCellsFrom]

def Pg.blit (p : Pg) (q : Nat → Ce) (d s n : Nat) : Pg := { p with c := fun j => if d ≤ j ∧ j < d + n then q (s + (j - d)) else p.c j }
theorem blit_zero (p : Pg) (q : Nat → Ce) (d s : Nat) : (p.blit q d s 0).cs = p.cs := Pg.cs_eq ⟨rfl, rfl, rfl, rfl, fun i _ => by simp only [Pg.blit]; rw [if_neg (by omega)]⟩
theorem cellsL_one (c : Nat → Ce) : ∀ n, ∀ v ∈ cellsL c n, v.oneCell' = true
  | 0, v, h => by simp [cellsL] at h
  | n + 1, v, h => by
    simp only [cellsL, List.mem_append, Ce.cs, List.mem_cons, List.not_mem_nil, or_false] at h
    rcases h with h | rfl | rfl
    · exact cellsL_one c n v h
    · rfl
    · rfl
theorem blit_list (p : Pg) (q : Nat → Ce) (d s n : Nat) (h : d + n ≤ 6) :
    (p.cs.toList.take (4 + d * 2) ++ cellsL (fun k => q (s + k)) n ++ p.cs.toList.drop (4 + d * 2 + (cellsL (fun k => q (s + k)) n).length)).toArray = (p.blit q d s n).cs := by
  obtain ⟨k, l, t, m, c⟩ := p
  have hd : d = 0 ∨ d = 1 ∨ d = 2 ∨ d = 3 ∨ d = 4 ∨ d = 5 ∨ d = 6 := by omega
  have hn : n = 0 ∨ n = 1 ∨ n = 2 ∨ n = 3 ∨ n = 4 ∨ n = 5 ∨ n = 6 := by omega
  rcases hd with rfl | rfl | rfl | rfl | rfl | rfl | rfl <;> rcases hn with rfl | rfl | rfl | rfl | rfl | rfl | rfl <;> first | (exfalso; omega) | simp [Pg.cs, cellsL, Ce.cs, Pg.blit]
theorem cellsL_src (w : World) (gs : Nat) (q : Pg) (s n : Nat) (h : Bk w gs 40 q.cs) (hs : s + n ≤ 6) :
    ∀ j v, (cellsL (fun k => q.c (s + k)) n)[j]? = some v → w.cell? ((⟨gs, 4 + s * 2, none⟩ : Addr).add j) = some v := by
  intro j v hv
  have hl := cellsL_length (fun k => q.c (s + k)) n
  have hj : j < n * 2 := by rw [← hl]; exact (List.getElem?_eq_some_iff.1 hv).1
  rw [Addr.add_lit]
  obtain ⟨a, b⟩ := cellsL_get (fun k => q.c (s + k)) n (j / 2) (by omega)
  obtain ⟨c, d⟩ := pg_cell h (s + j / 2) (by omega)
  by_cases e : j % 2 = 0
  · rw [show j = j / 2 * 2 by omega, a] at hv
    rw [show 4 + s * 2 + j = 4 + (s + j / 2) * 2 by omega, c]
    exact hv
  · rw [show j = j / 2 * 2 + 1 by omega, b] at hv
    rw [show 4 + s * 2 + j = 4 + (s + j / 2) * 2 + 1 by omega, d]
    exact hv
theorem grown_setRow (w : World) (g : Nat) (cs : Array Value) : w.grownBy (w.setRow g cs) (some g) :=
  ⟨rfl, rfl, rfl, by simp [World.setRow], fun k _ hk => setRow_other w g k cs (fun e => hk (by rw [e]))⟩
/-- The law: a copy into a page's cells. -/
theorem run_copy_page (w : World) (dp sp : Option Addr) (dLen dCap sLen sCap : Nat) (gd gs : Nat) (p q : Pg) (d s n : Nat)
    (hgd : Bk w gd 40 p.cs) (hgs : Bk w gs 40 q.cs) (hn : n = Nat.min sLen dLen) (hd : d + n ≤ 6) (hs : s + n ≤ 6)
    (hpos : 0 < n → dp = some ⟨gd, 4 + d * 2, none⟩ ∧ sp = some ⟨gs, 4 + s * 2, none⟩) :
    ∃ w', (∀ ty, (Builtin.copy_ #[78, 78] ty #[.slice dp dLen dCap, .slice sp sLen sCap]).run Try.prog w = .ok (goInt n) w') ∧
      Bk w' gd 40 (p.blit q.c d s n).cs ∧ w.grownBy w' (some gd) ∧ w'.heap.size = w.heap.size := by
  have hsz : (Try.prog.info? 23).map (·.size) = some 2 := by kernel_rfl
  by_cases h0 : n = 0
  · subst h0
    exact ⟨w, fun ty => run_copy_zero w _ _ ty 23 2 dp sp dLen dCap sLen sCap Try.underlying78 hsz hn.symm, by rw [blit_zero]; exact hgd, World.grownBy.refl _ _, rfl⟩
  · obtain ⟨rfl, rfl⟩ := hpos (by omega)
    have hl := cellsL_length (fun k => q.c (s + k)) n
    have hr := fun ty => run_copy_cells (P := Try.prog) w 78 78 ty 23 2 n gd (4 + d * 2) dLen dCap ⟨gs, 4 + s * 2, none⟩ sLen sCap p.cs 40 (cellsL (fun k => q.c (s + k)) n)
      Try.underlying78 hsz hgd hn hl (cellsL_src w gs q s n hgs hs) (by rw [hl]; show _ ≤ 16; omega) (cellsL_one _ n)
    simp only [blit_list p q.c d s n hd] at hr
    exact ⟨_, hr, setRow_heap _ _ _ _ _ _ hgd, grown_setRow _ _ _, by simp [World.setRow]⟩
/-- A slice of a page's cells. -/
theorem slice_lh (g i n : Nat) (hi : i ≤ n) (hn : n ≤ 6) (x y : Int) (hx : x = i) (hy : y = n) (wx : World) :
    (Instr.sliceAt 38 (.pointer (some ⟨g, 4, none⟩)) (some (.int .i64 x)) (some (.int .i64 y)) none).run Try.prog wx = .ok (.slice (some (if 6 = i then ⟨g, 4, none⟩ else ⟨g, 4 + i * 2, none⟩)) (n - i) (6 - i)) wx := by
  subst hx hy
  have hal : Try.prog.arrayLen 38 = 6 := by kernel_rfl
  have hel : Try.prog.elem 38 = 23 := by kernel_rfl
  obtain ⟨i0, hi0⟩ := info_of_underlying (P := Try.prog) Try.underlying23
  have hsz : Try.prog.cellsOf 23 = 2 := by kernel_rfl
  rw [run_sliceAt_array_lh wx 38 _ (by rw [hal, hel]; exact Try.underlying38) .i64 .i64 (i : Int) (n : Int) (by omega) (by omega) (by rw [hal]; omega), hel, run_sizeOf wx hi0, hal]
  simp only [Int.toNat_natCast, Result.andThen_ok, slicedAt, hsz, Addr.add_lit]
end Go.Proofs.Ytedoechjjcbeeaa
