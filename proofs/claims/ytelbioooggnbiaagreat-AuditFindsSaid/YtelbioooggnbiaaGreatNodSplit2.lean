/- copy between the cells of pages. The walk of package node: Put. The walk of package node: Take. The walk of package node: Split. The walk of package node: Split. -/
import Derived.Test.YtelbioooggnbiaaGreatNodRef2
import Derived.Laws.CopyRow
import Derived.Laws.CopyOwn
import Derived.Deep.RegionHeldLaw
import Derived.OrdersHeld
set_option linter.unusedVariables false
set_option linter.unusedSimpArgs false
namespace Go.Proofs.YtelbioooggnbiaaGreat
open Go.RowKit

theorem run_copy_cells {P : Program} (w : World) (dT sT ty elem : TypeId) (size m g o dLen dCap : Nat) (a : Addr) (sLen sCap : Nat) (cur : Array Value) (t : TypeId) (cs : List Value)
    (hu : P.underlying dT = some (.slice elem)) (hs : (P.info? elem).map (·.size) = some size)
    (hg : w.heap[g]? = some (.cells cur t (0, 0))) (hm : m = Nat.min sLen dLen) (hn : cs.length = m * size)
    (hsrc : ∀ j v, cs[j]? = some v → w.cell? (a.add j) = some v) (hfit : o + cs.length ≤ cur.size) (h1 : ∀ v ∈ cs, v.oneCell' = true) :
    (Builtin.copy_ #[dT, sT] ty #[.slice (some ⟨g, o, none⟩) dLen dCap, .slice (some a) sLen sCap]).run P w =
      .ok (goInt m) (w.setRow g (cur.toList.take o ++ cs ++ cur.toList.drop (o + cs.length)).toArray) := by
  have hl := run_loadCells_list (P := P) w a cs hsrc
  have hst := run_storeCells_at P g o t cs 0 cur w hg (by simpa using hfit) h1
  rw [hn] at hl
  cases hq : P.info? elem with
  | none => simp [hq] at hs
  | some i =>
    have hi : i.size = size := by simpa [hq] using hs
    subst hm
    simp [Builtin.copy_, run_underlying hu, Builtin.lenOf, Builtin.firstCells, sizeOf, typeInfo, hq, hi, hl, hst, hn]
theorem run_copy_zero {P : Program} (w : World) (dT sT ty elem : TypeId) (size : Nat) (dp sp : Option Addr) (dLen dCap sLen sCap : Nat)
    (hu : P.underlying dT = some (.slice elem)) (hs : (P.info? elem).map (·.size) = some size) (hn : Nat.min sLen dLen = 0) :
    (Builtin.copy_ #[dT, sT] ty #[.slice dp dLen dCap, .slice sp sLen sCap]).run P w = .ok (goInt 0) w := by
  cases hq : P.info? elem with
  | none => simp [hq] at hs
  | some i => cases dp <;> cases sp <;> simp [Builtin.copy_, run_underlying hu, Builtin.lenOf, Builtin.firstCells, sizeOf, typeInfo, hq, hn, storeCells, loadCells, loadCellsFrom]

def Pg.blit (p : Pg) (q : Nat → Ce) (d s n : Nat) : Pg := { p with c := fun j => if d ≤ j ∧ j < d + n then q (s + (j - d)) else p.c j }
theorem blit_zero (p : Pg) (q : Nat → Ce) (d s : Nat) : (p.blit q d s 0).cs = p.cs := Pg.cs_eq ⟨rfl, rfl, rfl, rfl, fun i _ => by simp only [Pg.blit]; rw [if_neg (by omega)]⟩
theorem cellsL_one (c : Nat → Ce) : ∀ n, ∀ v ∈ cellsL c n, v.oneCell' = true
  | 0, v, h => by simp [cellsL] at h
  | n + 1, v, h => by
    simp only [cellsL, List.mem_append, Ce.cs, List.mem_cons, List.not_mem_nil, or_false] at h
    rcases h with h | rfl | rfl
    · exact cellsL_one c n v h
    · rfl
    · rfl
theorem blit_list (p : Pg) (q : Nat → Ce) (d s n : Nat) (h : d + n ≤ 6) :
    (p.cs.toList.take (4 + d * 2) ++ cellsL (fun k => q (s + k)) n ++ p.cs.toList.drop (4 + d * 2 + (cellsL (fun k => q (s + k)) n).length)).toArray = (p.blit q d s n).cs := by
  obtain ⟨k, l, t, m, c⟩ := p
  have hd : d = 0 ∨ d = 1 ∨ d = 2 ∨ d = 3 ∨ d = 4 ∨ d = 5 ∨ d = 6 := by omega
  have hn : n = 0 ∨ n = 1 ∨ n = 2 ∨ n = 3 ∨ n = 4 ∨ n = 5 ∨ n = 6 := by omega
  rcases hd with rfl | rfl | rfl | rfl | rfl | rfl | rfl <;> rcases hn with rfl | rfl | rfl | rfl | rfl | rfl | rfl <;> first | (exfalso; omega) | simp [Pg.cs, cellsL, Ce.cs, Pg.blit]
theorem cellsL_src (w : World) (gs : Nat) (q : Pg) (s n : Nat) (h : Bk w gs 38 q.cs) (hs : s + n ≤ 6) :
    ∀ j v, (cellsL (fun k => q.c (s + k)) n)[j]? = some v → w.cell? ((⟨gs, 4 + s * 2, none⟩ : Addr).add j) = some v := by
  intro j v hv
  have hl := cellsL_length (fun k => q.c (s + k)) n
  have hj : j < n * 2 := by rw [← hl]; exact (List.getElem?_eq_some_iff.1 hv).1
  rw [Addr.add_lit]
  obtain ⟨a, b⟩ := cellsL_get (fun k => q.c (s + k)) n (j / 2) (by omega)
  obtain ⟨c, d⟩ := pg_cell h (s + j / 2) (by omega)
  by_cases e : j % 2 = 0
  · rw [show j = j / 2 * 2 by omega, a] at hv
    rw [show 4 + s * 2 + j = 4 + (s + j / 2) * 2 by omega, c]
    exact hv
  · rw [show j = j / 2 * 2 + 1 by omega, b] at hv
    rw [show 4 + s * 2 + j = 4 + (s + j / 2) * 2 + 1 by omega, d]
    exact hv
theorem grown_setRow (w : World) (g : Nat) (cs : Array Value) : w.grownBy (w.setRow g cs) (some g) :=
  ⟨rfl, rfl, rfl, by simp [World.setRow], fun k _ hk => setRow_other w g k cs (fun e => hk (by rw [e]))⟩
/-- The law: a copy into a page's cells. -/
theorem run_copy_page (w : World) (dp sp : Option Addr) (dLen dCap sLen sCap : Nat) (gd gs : Nat) (p q : Pg) (d s n : Nat)
    (hgd : Bk w gd 38 p.cs) (hgs : Bk w gs 38 q.cs) (hn : n = Nat.min sLen dLen) (hd : d + n ≤ 6) (hs : s + n ≤ 6)
    (hpos : 0 < n → dp = some ⟨gd, 4 + d * 2, none⟩ ∧ sp = some ⟨gs, 4 + s * 2, none⟩) :
    ∃ w', (∀ ty, (Builtin.copy_ #[185, 185] ty #[.slice dp dLen dCap, .slice sp sLen sCap]).run Tryz.prog w = .ok (goInt n) w') ∧
      Bk w' gd 38 (p.blit q.c d s n).cs ∧ w.grownBy w' (some gd) ∧ w'.heap.size = w.heap.size := by
  have hsz : (Tryz.prog.info? 35).map (·.size) = some 2 := by kernel_rfl
  by_cases h0 : n = 0
  · subst h0
    exact ⟨w, fun ty => run_copy_zero w _ _ ty 35 2 dp sp dLen dCap sLen sCap Tryz.underlying185 hsz hn.symm, by rw [blit_zero]; exact hgd, World.grownBy.refl _ _, rfl⟩
  · obtain ⟨rfl, rfl⟩ := hpos (by omega)
    have hl := cellsL_length (fun k => q.c (s + k)) n
    have hr := fun ty => run_copy_cells (P := Tryz.prog) w 185 185 ty 35 2 n gd (4 + d * 2) dLen dCap ⟨gs, 4 + s * 2, none⟩ sLen sCap p.cs 38 (cellsL (fun k => q.c (s + k)) n)
      Tryz.underlying185 hsz hgd hn hl (cellsL_src w gs q s n hgs hs) (by rw [hl]; show _ ≤ 16; omega) (cellsL_one _ n)
    simp only [blit_list p q.c d s n hd] at hr
    exact ⟨_, hr, setRow_heap _ _ _ _ _ _ hgd, grown_setRow _ _ _, by simp [World.setRow]⟩
/-- A slice of a page's cells. -/
theorem slice_lh (g i n : Nat) (hi : i ≤ n) (hn : n ≤ 6) (x y : Int) (hx : x = i) (hy : y = n) (wx : World) :
    (Instr.sliceAt 36 (.pointer (some ⟨g, 4, none⟩)) (some (.int .i64 x)) (some (.int .i64 y)) none).run Tryz.prog wx = .ok (.slice (some (if 6 = i then ⟨g, 4, none⟩ else ⟨g, 4 + i * 2, none⟩)) (n - i) (6 - i)) wx := by
  subst hx hy
  have hal : Tryz.prog.arrayLen 36 = 6 := by kernel_rfl
  have hel : Tryz.prog.elem 36 = 35 := by kernel_rfl
  obtain ⟨i0, hi0⟩ := info_of_underlying (P := Tryz.prog) Tryz.underlying35
  have hsz : Tryz.prog.cellsOf 35 = 2 := by kernel_rfl
  rw [run_sliceAt_array_lh wx 36 _ (by rw [hal, hel]; exact Tryz.underlying36) .i64 .i64 (i : Int) (n : Int) (by omega) (by omega) (by rw [hal]; omega), hel, run_sizeOf wx hi0, hal]
  simp only [Int.toNat_natCast, Result.andThen_ok, slicedAt, hsz, Addr.add_lit]
end Go.Proofs.YtelbioooggnbiaaGreat
namespace Go.Proofs.YtelbioooggnbiaaGreat
open Go.RowKit

/-- A page with a cell more at a place. -/
def Pg.ins (p : Pg) (i n : Nat) (c : Ce) : Pg := (p.blit p.c (i + 1) i (n - i)).set i c
def putE (p : Pg) (c : Ce) : Int := if ¬ c.says then 1 else if fThere p c.key then 160 else if cnt p.c = 6 then 140 else 0
def putP (p : Pg) (c : Ce) : Pg := if putE p c = 0 then p.ins (fAt p c.key) (cnt p.c) c else Pg.zero
set_option maxRecDepth 100000 in
set_option maxHeartbeats 400000 in
theorem put_none (p : Pg) (c : Ce) (w : World) (hc : c.d.size ≤ maxLen) (h1 : ¬ c.says) :
    Calls Tryz.prog 86 #[p.v, c.v] w fun e w' => e = .returned (.tuple #[Pg.zero.v, .int .i64 1]) ∧ Below w.heap.size w w' := by
  have CK := Lib.hid (fun w => key_any c w hc)
  rw [decide_eq_false h1] at CK
  clear h1 hc
  unfold Ce.v at *
  generalize c.key = ky at *
  generalize c.rst = rs at *
  unfold Pg.v
  go_enter Tryz.func86, Tryz.ntmps86
  go_wp2_with fail
  have k0 : Bk (((w.alloc (.cells p.cs 38)).alloc (.cells #[.int .i64 c.st, .string c.d] 35)).alloc (.cells Pg.zero.cs 38)) w.heap.size 38 p.cs := ((Bk.new w _ _).alloc _).alloc _
  have z0 : Bk (((w.alloc (.cells p.cs 38)).alloc (.cells #[.int .i64 c.st, .string c.d] 35)).alloc (.cells Pg.zero.cs 38)) (w.heap.size + 1 + 1) 38 Pg.zero.cs := Bk.new3 w _ _ _ _
  have b0 : Below w.heap.size w (((w.alloc (.cells p.cs 38)).alloc (.cells #[.int .i64 c.st, .string c.d] 35)).alloc (.cells Pg.zero.cs 38)) := (((Below.refl _ _).alloc (Nat.le_refl _) _).alloc (by simp) _).alloc (by simp; omega) _
  have K0 := Lib.hid k0; have Z0 := Lib.hid z0; have B0 := Lib.hid b0
  clear k0 z0 b0
  refine (CK.out _).mono ?_
  rintro e w2 ⟨rfl, hb2⟩
  have K2 := Lib.hid (K0.out.kept hb2); have Z2 := Lib.hid (Z0.out.kept hb2)
  have B2 := Lib.hid (below_then B0.out hb2 B0.out.size)
  clear hb2 K0 Z0 B0 CK
  go_wp2_with (refine store_page rfl _ _ rfl (w.heap.size + 1 + 1) Pg.zero Pg.zero rfl rfl Z2.out ?_)
  refine bodyPost_ret (page_res rfl _ _ (w.heap.size + 1 + 1) Pg.zero.cs (row_bk Z2.out) rfl rfl) rfl ?_
  exact ⟨rfl, below_setRow B2.out (by omega) _⟩
set_option maxRecDepth 100000 in
set_option maxHeartbeats 400000 in
theorem put_there (p : Pg) (c : Ce) (w : World) (hs : Sz p.c) (hc : c.d.size ≤ maxLen) (h1 : c.says) (h2 : fThere p c.key = true) :
    Calls Tryz.prog 86 #[p.v, c.v] w fun e w' => e = .returned (.tuple #[Pg.zero.v, .int .i64 160]) ∧ Below w.heap.size w w' := by
  have CK := Lib.hid (fun w => key_any c w hc)
  have CF := Lib.hid (fun w => find_any p c.key w hs)
  rw [decide_eq_true h1] at CK
  unfold IsFnd at CF
  rw [h2] at CF
  generalize fAt p c.key = i at *
  clear h1 h2 hs hc
  unfold Ce.v at *
  generalize c.key = ky at *
  generalize c.rst = rs at *
  unfold Pg.v
  go_enter Tryz.func86, Tryz.ntmps86
  go_wp2_with fail
  have k0 : Bk (((w.alloc (.cells p.cs 38)).alloc (.cells #[.int .i64 c.st, .string c.d] 35)).alloc (.cells Pg.zero.cs 38)) w.heap.size 38 p.cs := ((Bk.new w _ _).alloc _).alloc _
  have z0 : Bk (((w.alloc (.cells p.cs 38)).alloc (.cells #[.int .i64 c.st, .string c.d] 35)).alloc (.cells Pg.zero.cs 38)) (w.heap.size + 1 + 1) 38 Pg.zero.cs := Bk.new3 w _ _ _ _
  have b0 : Below w.heap.size w (((w.alloc (.cells p.cs 38)).alloc (.cells #[.int .i64 c.st, .string c.d] 35)).alloc (.cells Pg.zero.cs 38)) := (((Below.refl _ _).alloc (Nat.le_refl _) _).alloc (by simp) _).alloc (by simp; omega) _
  have K0 := Lib.hid k0; have Z0 := Lib.hid z0; have B0 := Lib.hid b0
  clear k0 z0 b0
  refine (CK.out _).mono ?_
  rintro e w2 ⟨rfl, hb2⟩
  have K2 := Lib.hid (K0.out.kept hb2); have Z2 := Lib.hid (Z0.out.kept hb2)
  have B2 := Lib.hid (below_then B0.out hb2 B0.out.size)
  clear hb2 K0 Z0 B0 CK
  go_wp2_with (refine load_page rfl _ rfl w.heap.size p rfl K2.out ?_)
  refine (CF.out _).mono ?_
  rintro e w3 ⟨j, b, rfl, ⟨rfl, rfl⟩, hb3⟩
  have Z3 := Lib.hid (Z2.out.kept hb3)
  have B3 := Lib.hid (below_then B2.out hb3 B2.out.size)
  clear hb3 K2 Z2 B2 CF
  go_wp2_with (refine store_page rfl _ _ rfl (w.heap.size + 1 + 1) Pg.zero Pg.zero rfl rfl Z3.out ?_)
  refine bodyPost_ret (page_res rfl _ _ (w.heap.size + 1 + 1) Pg.zero.cs (row_bk Z3.out) rfl rfl) rfl ?_
  exact ⟨rfl, below_setRow B3.out (by omega) _⟩
set_option maxRecDepth 100000 in
set_option maxHeartbeats 400000 in
theorem put_full (p : Pg) (c : Ce) (w : World) (hs : Sz p.c) (hc : c.d.size ≤ maxLen) (h1 : c.says) (h2 : fThere p c.key = false) (h3 : cnt p.c = 6) :
    Calls Tryz.prog 86 #[p.v, c.v] w fun e w' => e = .returned (.tuple #[Pg.zero.v, .int .i64 140]) ∧ Below w.heap.size w w' := by
  have CK := Lib.hid (fun w => key_any c w hc)
  have CF := Lib.hid (fun w => find_any p c.key w hs)
  have CC := Lib.hid (fun w => ncount_any p w)
  rw [h3] at CC
  rw [decide_eq_true h1] at CK
  unfold IsFnd at CF
  rw [h2] at CF
  generalize fAt p c.key = i at *
  clear h1 h2 h3 hs hc
  unfold Ce.v at *
  generalize c.key = ky at *
  generalize c.rst = rs at *
  unfold Pg.v
  go_enter Tryz.func86, Tryz.ntmps86
  go_wp2_with fail
  have k0 : Bk (((w.alloc (.cells p.cs 38)).alloc (.cells #[.int .i64 c.st, .string c.d] 35)).alloc (.cells Pg.zero.cs 38)) w.heap.size 38 p.cs := ((Bk.new w _ _).alloc _).alloc _
  have z0 : Bk (((w.alloc (.cells p.cs 38)).alloc (.cells #[.int .i64 c.st, .string c.d] 35)).alloc (.cells Pg.zero.cs 38)) (w.heap.size + 1 + 1) 38 Pg.zero.cs := Bk.new3 w _ _ _ _
  have b0 : Below w.heap.size w (((w.alloc (.cells p.cs 38)).alloc (.cells #[.int .i64 c.st, .string c.d] 35)).alloc (.cells Pg.zero.cs 38)) := (((Below.refl _ _).alloc (Nat.le_refl _) _).alloc (by simp) _).alloc (by simp; omega) _
  have K0 := Lib.hid k0; have Z0 := Lib.hid z0; have B0 := Lib.hid b0
  clear k0 z0 b0
  refine (CK.out _).mono ?_
  rintro e w2 ⟨rfl, hb2⟩
  have K2 := Lib.hid (K0.out.kept hb2); have Z2 := Lib.hid (Z0.out.kept hb2)
  have B2 := Lib.hid (below_then B0.out hb2 B0.out.size)
  clear hb2 K0 Z0 B0 CK
  go_wp2_with (refine load_page rfl _ rfl w.heap.size p rfl K2.out ?_)
  refine (CF.out _).mono ?_
  rintro e w3 ⟨j, b, rfl, ⟨rfl, rfl⟩, hb3⟩
  have K3 := Lib.hid (K2.out.kept hb3); have Z3 := Lib.hid (Z2.out.kept hb3)
  have B3 := Lib.hid (below_then B2.out hb3 B2.out.size)
  clear hb3 K2 Z2 B2 CF
  go_wp2_with (refine load_page rfl _ rfl w.heap.size p rfl K3.out ?_)
  refine (CC.out _).mono ?_
  rintro e w4 ⟨rfl, hb4⟩
  have Z4 := Lib.hid (Z3.out.kept hb4)
  have B4 := Lib.hid (below_then B3.out hb4 B3.out.size)
  clear hb4 K3 Z3 B3 CC
  go_wp2_with (refine store_page rfl _ _ rfl (w.heap.size + 1 + 1) Pg.zero Pg.zero rfl rfl Z4.out ?_)
  refine bodyPost_ret (page_res rfl _ _ (w.heap.size + 1 + 1) Pg.zero.cs (row_bk Z4.out) rfl rfl) rfl ?_
  exact ⟨rfl, below_setRow B4.out (by omega) _⟩
set_option maxRecDepth 100000 in
set_option maxHeartbeats 400000 in
theorem put_good (p : Pg) (c : Ce) (w : World) (hs : Sz p.c) (hc : c.d.size ≤ maxLen) (h1 : c.says) (h2 : fThere p c.key = false) (h3 : cnt p.c ≠ 6) :
    Calls Tryz.prog 86 #[p.v, c.v] w fun e w' => e = .returned (.tuple #[(p.ins (fAt p c.key) (cnt p.c) c).v, .int .i64 0]) ∧ Below w.heap.size w w' := by
  have CK := Lib.hid (fun w => key_any c w hc)
  have CF := Lib.hid (fun w => find_any p c.key w hs)
  have CC := Lib.hid (fun w => ncount_any p w)
  rw [decide_eq_true h1] at CK
  unfold IsFnd at CF
  rw [h2] at CF
  have hi := fAt_le p c.key
  have hn := cnt_le p.c
  generalize fAt p c.key = i at *
  generalize cnt p.c = n at *
  have hn5 : n ≤ 5 := by omega
  have hn6 : ((n : Int) == 6) = false := by simp; omega
  have HI := Lib.hid hi; have HN := Lib.hid hn5
  clear h1 h2 h3 hs hc
  have hres : p.ins i n c = (p.blit p.c (i + 1) i (n - i)).set i c := rfl
  have HRES := Lib.hid hres
  clear hres
  generalize p.ins i n c = R at *
  unfold Ce.v at *
  generalize c.key = ky at *
  generalize c.rst = rs at *
  unfold Pg.v
  go_enter Tryz.func86, Tryz.ntmps86
  go_wp2_with fail
  have k0 : Bk (((w.alloc (.cells p.cs 38)).alloc (.cells #[.int .i64 c.st, .string c.d] 35)).alloc (.cells Pg.zero.cs 38)) w.heap.size 38 p.cs := ((Bk.new w _ _).alloc _).alloc _
  have c0 : Bk (((w.alloc (.cells p.cs 38)).alloc (.cells #[.int .i64 c.st, .string c.d] 35)).alloc (.cells Pg.zero.cs 38)) (w.heap.size + 1) 35 #[.int .i64 c.st, .string c.d] := (Bk.new2 w _ _ _).alloc _
  have z0 : Bk (((w.alloc (.cells p.cs 38)).alloc (.cells #[.int .i64 c.st, .string c.d] 35)).alloc (.cells Pg.zero.cs 38)) (w.heap.size + 1 + 1) 38 Pg.zero.cs := Bk.new3 w _ _ _ _
  have b0 : Below w.heap.size w (((w.alloc (.cells p.cs 38)).alloc (.cells #[.int .i64 c.st, .string c.d] 35)).alloc (.cells Pg.zero.cs 38)) := (((Below.refl _ _).alloc (Nat.le_refl _) _).alloc (by simp) _).alloc (by simp; omega) _
  have K0 := Lib.hid k0; have C0 := Lib.hid c0; have Z0 := Lib.hid z0; have B0 := Lib.hid b0
  clear k0 c0 z0 b0
  refine (CK.out _).mono ?_
  rintro e w2 ⟨rfl, hb2⟩
  have K2 := Lib.hid (K0.out.kept hb2); have C2 := Lib.hid (C0.out.kept hb2); have Z2 := Lib.hid (Z0.out.kept hb2)
  have B2 := Lib.hid (below_then B0.out hb2 B0.out.size)
  clear hb2 K0 C0 Z0 B0 CK
  go_wp2_with (refine load_page rfl _ rfl w.heap.size p rfl K2.out ?_)
  refine (CF.out _).mono ?_
  rintro e w3 ⟨j, b, rfl, ⟨rfl, rfl⟩, hb3⟩
  have K3 := Lib.hid (K2.out.kept hb3); have C3 := Lib.hid (C2.out.kept hb3); have Z3 := Lib.hid (Z2.out.kept hb3)
  have B3 := Lib.hid (below_then B2.out hb3 B2.out.size)
  clear hb3 K2 C2 Z2 B2 CF
  go_wp2_with (refine load_page rfl _ rfl w.heap.size p rfl K3.out ?_)
  refine (CC.out _).mono ?_
  rintro e w4 ⟨rfl, hb4⟩
  have K4 := Lib.hid (K3.out.kept hb4); have C4 := Lib.hid (C3.out.kept hb4); have Z4 := Lib.hid (Z3.out.kept hb4)
  have B4 := Lib.hid (below_then B3.out hb4 B3.out.size)
  clear hb4 K3 C3 Z3 B3 CC
  go_wp2_with fail
  have a1 : IntKind.i64.wrap ((j : Int) + 1) = (j : Int) + 1 := by simp [IntKind.wrap, IntKind.signed, IntKind.bits]; omega
  have a2 : IntKind.i64.wrap ((n : Int) + 1) = (n : Int) + 1 := by simp [IntKind.wrap, IntKind.signed, IntKind.bits]; omega
  obtain ⟨m, hm⟩ : ∃ m, m = n - j := ⟨_, rfl⟩
  have s1 := fun wx => slice_lh w.heap.size (j + 1) (n + 1) (by omega) (by omega) ((j : Int) + 1) ((n : Int) + 1) (by omega) (by omega) wx
  have s2 := fun wx => slice_lh w.heap.size j n hi (by omega) (j : Int) (n : Int) rfl rfl wx
  rw [show n + 1 - (j + 1) = m by omega] at s1
  rw [← hm] at s2
  have hd1 : 0 < m → (if 6 = j + 1 then (⟨w.heap.size, 4, none⟩ : Addr) else ⟨w.heap.size, 4 + (j + 1) * 2, none⟩) = ⟨w.heap.size, 4 + (j + 1) * 2, none⟩ := fun h => if_neg (by omega)
  have hd2 : 0 < m → (if 6 = j then (⟨w.heap.size, 4, none⟩ : Addr) else ⟨w.heap.size, 4 + j * 2, none⟩) = ⟨w.heap.size, 4 + j * 2, none⟩ := fun h => if_neg (by omega)
  generalize (if 6 = j + 1 then (⟨w.heap.size, 4, none⟩ : Addr) else ⟨w.heap.size, 4 + (j + 1) * 2, none⟩) = p1 at *
  generalize (if 6 = j then (⟨w.heap.size, 4, none⟩ : Addr) else ⟨w.heap.size, 4 + j * 2, none⟩) = p2 at *
  generalize 6 - (j + 1) = q1 at s1
  generalize 6 - j = q2 at s2
  have HD1 := Lib.hid hd1; have HD2 := Lib.hid hd2; have HM := Lib.hid hm
  have HJ := Lib.hid (show j + m = n by omega)
  clear hd1 hd2 hm
  obtain ⟨w5, hcp, k5, g5, z5⟩ := run_copy_page w4.drew (some p1) (some p2) m q1 m q2 w.heap.size w.heap.size p p (j + 1) j m K4.out.drew K4.out.drew (by simp) (by have := HJ.out; omega) (by have := HJ.out; omega) (fun h => ⟨by rw [HD1.out h], by rw [HD2.out h]⟩)
  have K5 := Lib.hid k5; have G5 := Lib.hid g5; have Z5 := Lib.hid z5
  clear k5 g5 z5
  have f0 := hi; have f1 := hn
  go_region
  have C5 := Lib.hid (C4.out.drew.grown G5.out (by simp)); have Y5 := Lib.hid (Z4.out.drew.grown G5.out (by simp; omega))
  have B5 := Lib.hid (below_grow B4.out.drew G5.out (fun k hk => by injection hk with hk; omega) B4.out.size)
  have hm : n - j = m := by have := HJ.out; omega
  clear hcp s1 s2 K4 C4 Z4 B4 HD1 HD2 HM HJ a1 a2
  have R5 := HRES.out
  rw [hm] at R5
  generalize p.blit p.c (j + 1) j m = P5 at *
  have c0 := C5.out.cell 0; have c1 := C5.out.cell 1
  simp only [List.getElem?_toArray, List.getElem?_cons_zero, List.getElem?_cons_succ] at c0 c1
  obtain ⟨x0, x1⟩ := pg_cell K5.out j (by omega)
  have e0 := K5.out.fz (4 + j * 2); have e1 := K5.out.fz (4 + j * 2 + 1)
  have k6 : Bk ((w5.setCell ⟨w.heap.size, 4 + j * 2, none⟩ (.int .i64 c.st)).setCell ⟨w.heap.size, 4 + j * 2 + 1, none⟩ (.string c.d)) w.heap.size 38 R.cs := by
    have := (K5.out.set (4 + j * 2) (.int .i64 c.st)).set (4 + j * 2 + 1) (.string c.d)
    rw [Pg.cs_set P5 j (by omega) c, ← R5] at this
    exact this
  have z6 : Bk ((w5.setCell ⟨w.heap.size, 4 + j * 2, none⟩ (.int .i64 c.st)).setCell ⟨w.heap.size, 4 + j * 2 + 1, none⟩ (.string c.d)) (w.heap.size + 1 + 1) 38 Pg.zero.cs := (Y5.out.far (by simp; omega) _).far (by simp; omega) _
  have K6 := Lib.hid k6; have Z6 := Lib.hid z6
  have B6 := Lib.hid ((B5.out.setCell (p := ⟨w.heap.size, 4 + j * 2, none⟩) (Nat.le_refl _) (.int .i64 c.st)).setCell (p := ⟨w.heap.size, 4 + j * 2 + 1, none⟩) (Nat.le_refl _) (.string c.d))
  clear k6 z6 R5 hm K5 C5 Y5 B5
  have j6 : (j : Int) < 6 := by omega
  go_wp2_with (first | (refine load_page rfl _ rfl w.heap.size R rfl K6.out ?_) | (refine store_page rfl _ _ rfl (w.heap.size + 1 + 1) R Pg.zero rfl rfl Z6.out ?_))
  refine bodyPost_ret (page_res rfl _ _ (w.heap.size + 1 + 1) R.cs (row_bk Z6.out) rfl rfl) rfl ?_
  exact ⟨rfl, below_setRow B6.out (by omega) _⟩
theorem nput_any (p : Pg) (c : Ce) (w : World) (hs : Sz p.c) (hc : c.d.size ≤ maxLen) :
    Calls Tryz.prog 86 #[p.v, c.v] w fun e w' => e = .returned (.tuple #[(putP p c).v, .int .i64 (putE p c)]) ∧ Below w.heap.size w w' := by
  by_cases h1 : c.says
  · by_cases h2 : fThere p c.key = true
    · have e : putE p c = 160 := by unfold putE; rw [if_neg (by simp [h1]), if_pos h2]
      unfold putP
      rw [e, if_neg (by decide)]
      exact put_there p c w hs hc h1 h2
    · have h2' : fThere p c.key = false := by simpa using h2
      by_cases h3 : cnt p.c = 6
      · have e : putE p c = 140 := by unfold putE; rw [if_neg (by simp [h1]), if_neg h2, if_pos h3]
        unfold putP
        rw [e, if_neg (by decide)]
        exact put_full p c w hs hc h1 h2' h3
      · have e : putE p c = 0 := by unfold putE; rw [if_neg (by simp [h1]), if_neg h2, if_neg h3]
        unfold putP
        rw [e, if_pos rfl]
        exact put_good p c w hs hc h1 h2' h3
  · have e : putE p c = 1 := by unfold putE; rw [if_pos h1]
    unfold putP
    rw [e, if_neg (by decide)]
    exact put_none p c w hc h1
end Go.Proofs.YtelbioooggnbiaaGreat
namespace Go.Proofs.YtelbioooggnbiaaGreat
open Go.RowKit

def czero : Ce := ⟨0, ⟨#[]⟩⟩
/-- A page with a cell less. -/
def Pg.del (p : Pg) (i n : Nat) : Pg := (p.blit p.c i (i + 1) (n - 1 - i)).set (n - 1) czero
def takeOk (p : Pg) (i : Int) : Prop := 0 ≤ i ∧ i < (cnt p.c : Int)
instance (p : Pg) (i : Int) : Decidable (takeOk p i) := by unfold takeOk; infer_instance
def takeP (p : Pg) (i : Int) : Pg := if takeOk p i then p.del i.toNat (cnt p.c) else Pg.zero
def takeE (p : Pg) (i : Int) : Int := if takeOk p i then 0 else 1
set_option maxRecDepth 100000 in
set_option maxHeartbeats 400000 in
theorem take_bad (p : Pg) (i : Int) (w : World) (h : ¬ takeOk p i) :
    Calls Tryz.prog 85 #[p.v, .int .i64 i] w fun e w' => e = .returned (.tuple #[Pg.zero.v, .int .i64 1]) ∧ Below w.heap.size w w' := by
  have CC := Lib.hid (fun w => ncount_any p w)
  unfold takeOk at h
  generalize cnt p.c = n at *
  unfold Pg.v
  go_enter Tryz.func85, Tryz.ntmps85
  have k0 : Bk ((w.alloc (.cells p.cs 38)).alloc (.cells Pg.zero.cs 38)) w.heap.size 38 p.cs := (Bk.new w _ _).alloc _
  have z0 : Bk ((w.alloc (.cells p.cs 38)).alloc (.cells Pg.zero.cs 38)) (w.heap.size + 1) 38 Pg.zero.cs := Bk.new2 w _ _ _
  have b0 : Below w.heap.size w ((w.alloc (.cells p.cs 38)).alloc (.cells Pg.zero.cs 38)) := ((Below.refl _ _).alloc (Nat.le_refl _) _).alloc (by simp) _
  have K0 := Lib.hid k0; have Z0 := Lib.hid z0; have B0 := Lib.hid b0
  clear k0 z0 b0
  go_wp2_with (refine load_page rfl _ rfl w.heap.size p rfl K0.out ?_)
  refine (CC.out _).mono ?_
  rintro e w2 ⟨rfl, hb2⟩
  have Z2 := Lib.hid (Z0.out.kept hb2)
  have B2 := Lib.hid (below_then B0.out hb2 B0.out.size)
  clear hb2 K0 Z0 B0 CC
  by_cases h1 : i < 0
  · clear h
    go_wp2_with (refine store_page rfl _ _ rfl (w.heap.size + 1) Pg.zero Pg.zero rfl rfl Z2.out ?_)
    refine bodyPost_ret (page_res rfl _ _ (w.heap.size + 1) Pg.zero.cs (row_bk Z2.out) rfl rfl) rfl ?_
    exact ⟨rfl, below_setRow B2.out (by omega) _⟩
  · have h2 : (n : Int) ≤ i := by
      by_cases h2 : (n : Int) ≤ i
      · exact h2
      · exact absurd ⟨by omega, by omega⟩ h
    clear h
    go_wp2_with (refine store_page rfl _ _ rfl (w.heap.size + 1) Pg.zero Pg.zero rfl rfl Z2.out ?_)
    refine bodyPost_ret (page_res rfl _ _ (w.heap.size + 1) Pg.zero.cs (row_bk Z2.out) rfl rfl) rfl ?_
    exact ⟨rfl, below_setRow B2.out (by omega) _⟩
set_option maxRecDepth 100000 in
set_option maxHeartbeats 400000 in
theorem ntake_good (p : Pg) (i : Nat) (w : World) (h : i < cnt p.c) :
    Calls Tryz.prog 85 #[p.v, .int .i64 i] w fun e w' => e = .returned (.tuple #[(p.del i (cnt p.c)).v, .int .i64 0]) ∧ Below w.heap.size w w' := by
  have CC := Lib.hid (fun w => ncount_any p w)
  have hn := cnt_le p.c
  generalize cnt p.c = n at *
  obtain ⟨l, rfl⟩ : ∃ l, n = l + 1 := ⟨n - 1, by omega⟩
  have hres : p.del i (l + 1) = (p.blit p.c i (i + 1) (l - i)).set l czero := rfl
  have HRES := Lib.hid hres
  clear hres
  generalize p.del i (l + 1) = R at *
  obtain ⟨n, hnl⟩ : ∃ n, n = l + 1 := ⟨_, rfl⟩
  rw [← hnl] at CC h hn
  have HN := Lib.hid hnl
  have hl5 : l ≤ 5 := by omega
  have hil : i ≤ l := by omega
  have i1 : ¬ ((i : Int) < 0) := by omega
  have i2 : ¬ (n ≤ i) := by omega
  have i3 : ¬ ((n : Int) ≤ (i : Int)) := by omega
  clear hnl
  unfold Pg.v
  go_enter Tryz.func85, Tryz.ntmps85
  have k0 : Bk ((w.alloc (.cells p.cs 38)).alloc (.cells Pg.zero.cs 38)) w.heap.size 38 p.cs := (Bk.new w _ _).alloc _
  have z0 : Bk ((w.alloc (.cells p.cs 38)).alloc (.cells Pg.zero.cs 38)) (w.heap.size + 1) 38 Pg.zero.cs := Bk.new2 w _ _ _
  have b0 : Below w.heap.size w ((w.alloc (.cells p.cs 38)).alloc (.cells Pg.zero.cs 38)) := ((Below.refl _ _).alloc (Nat.le_refl _) _).alloc (by simp) _
  have K0 := Lib.hid k0; have Z0 := Lib.hid z0; have B0 := Lib.hid b0
  clear k0 z0 b0
  go_wp2_with (refine load_page rfl _ rfl w.heap.size p rfl K0.out ?_)
  refine (CC.out _).mono ?_
  rintro e w4 ⟨rfl, hb2⟩
  have K4 := Lib.hid (K0.out.kept hb2)
  have Z4 := Lib.hid (Z0.out.kept hb2)
  have B4 := Lib.hid (below_then B0.out hb2 B0.out.size)
  clear hb2 K0 Z0 B0 CC
  go_wp2_with fail
  have hnl := HN.out
  have a1 : IntKind.i64.wrap ((n : Int) - 1) = (l : Int) := by simp [IntKind.wrap, IntKind.signed, IntKind.bits]; omega
  have a2 : IntKind.i64.wrap ((i : Int) + 1) = (i : Int) + 1 := by simp [IntKind.wrap, IntKind.signed, IntKind.bits]; omega
  obtain ⟨m, hm⟩ : ∃ m, m = l - i := ⟨_, rfl⟩
  have s1 := fun wx => slice_lh w.heap.size i l hil (by omega) (i : Int) (l : Int) rfl rfl wx
  have s2 := fun wx => slice_lh w.heap.size (i + 1) n (by omega) hn ((i : Int) + 1) (n : Int) (by omega) rfl wx
  rw [← hm] at s1
  rw [show n - (i + 1) = m by omega] at s2
  have hd1 : 0 < m → (if 6 = i then (⟨w.heap.size, 4, none⟩ : Addr) else ⟨w.heap.size, 4 + i * 2, none⟩) = ⟨w.heap.size, 4 + i * 2, none⟩ := fun h => if_neg (by omega)
  have hd2 : 0 < m → (if 6 = i + 1 then (⟨w.heap.size, 4, none⟩ : Addr) else ⟨w.heap.size, 4 + (i + 1) * 2, none⟩) = ⟨w.heap.size, 4 + (i + 1) * 2, none⟩ := fun h => if_neg (by omega)
  generalize (if 6 = i then (⟨w.heap.size, 4, none⟩ : Addr) else ⟨w.heap.size, 4 + i * 2, none⟩) = p1 at *
  generalize (if 6 = i + 1 then (⟨w.heap.size, 4, none⟩ : Addr) else ⟨w.heap.size, 4 + (i + 1) * 2, none⟩) = p2 at *
  generalize 6 - i = q1 at s1
  generalize 6 - (i + 1) = q2 at s2
  have HD1 := Lib.hid hd1; have HD2 := Lib.hid hd2; have HM := Lib.hid hm
  clear hd1 hd2
  obtain ⟨w5, hcp, k5, g5, z5⟩ := run_copy_page w4.drew (some p1) (some p2) m q1 m q2 w.heap.size w.heap.size p p i (i + 1) m K4.out.drew K4.out.drew (by simp) (by omega) (by omega) (fun h => ⟨by rw [HD1.out h], by rw [HD2.out h]⟩)
  have K5 := Lib.hid k5; have G5 := Lib.hid g5; have Z5 := Lib.hid z5
  clear k5 g5 z5 hm hnl
  go_region
  have Y5 := Lib.hid (Z4.out.drew.grown G5.out (by simp))
  have B5 := Lib.hid (below_grow B4.out.drew G5.out (fun k hk => by injection hk with hk; omega) B4.out.size)
  have R5 := HRES.out
  have hm := HM.out
  rw [← hm] at R5
  clear hcp s1 s2 K4 Z4 B4 HD1 HD2 HM a2
  generalize p.blit p.c i (i + 1) m = P5 at *
  obtain ⟨x0, x1⟩ := pg_cell K5.out l (by omega)
  have e0 := K5.out.fz (4 + l * 2); have e1 := K5.out.fz (4 + l * 2 + 1)
  have k6 : Bk ((w5.setCell ⟨w.heap.size, 4 + l * 2, none⟩ (.int .i64 0)).setCell ⟨w.heap.size, 4 + l * 2 + 1, none⟩ (.string ⟨#[]⟩)) w.heap.size 38 R.cs := by
    have := (K5.out.set (4 + l * 2) (.int .i64 0)).set (4 + l * 2 + 1) (.string ⟨#[]⟩)
    have h2 := Pg.cs_set P5 l (by omega) czero
    unfold czero at h2 R5
    rw [h2, ← R5] at this
    exact this
  have z6 : Bk ((w5.setCell ⟨w.heap.size, 4 + l * 2, none⟩ (.int .i64 0)).setCell ⟨w.heap.size, 4 + l * 2 + 1, none⟩ (.string ⟨#[]⟩)) (w.heap.size + 1) 38 Pg.zero.cs := (Y5.out.far (by simp) _).far (by simp) _
  have K6 := Lib.hid k6; have Z6 := Lib.hid z6
  have B6 := Lib.hid ((B5.out.setCell (p := ⟨w.heap.size, 4 + l * 2, none⟩) (Nat.le_refl _) (.int .i64 0)).setCell (p := ⟨w.heap.size, 4 + l * 2 + 1, none⟩) (Nat.le_refl _) (.string ⟨#[]⟩))
  clear k6 z6 R5 hm K5 Y5 B5
  have j5 : (0 : Int) ≤ (l : Int) := by omega
  have j6 : (l : Int) < 6 := by omega
  go_wp2_with (first | (refine load_page rfl _ rfl w.heap.size R rfl K6.out ?_) | (refine store_page rfl _ _ rfl (w.heap.size + 1) R Pg.zero rfl rfl Z6.out ?_))
  refine bodyPost_ret (page_res rfl _ _ (w.heap.size + 1) R.cs (row_bk Z6.out) rfl rfl) rfl ?_
  exact ⟨rfl, below_setRow B6.out (by omega) _⟩
theorem take_any (p : Pg) (i : Int) (w : World) :
    Calls Tryz.prog 85 #[p.v, .int .i64 i] w fun e w' => e = .returned (.tuple #[(takeP p i).v, .int .i64 (takeE p i)]) ∧ Below w.heap.size w w' := by
  by_cases h : takeOk p i
  · unfold takeP takeE
    rw [if_pos h, if_pos h]
    obtain ⟨k, rfl⟩ := Int.eq_ofNat_of_zero_le h.1
    exact ntake_good p k w (by have := h.2; omega)
  · unfold takeP takeE
    rw [if_neg h, if_neg h]
    exact take_bad p i w h
end Go.Proofs.YtelbioooggnbiaaGreat
namespace Go.Proofs.YtelbioooggnbiaaGreat
open Go.RowKit

/-- A page without its cells. -/
def Pg.clear (p : Pg) : Pg := { p with c := fun _ => czero }
def halfOf (p : Pg) : Nat := (cnt p.c + 1) / 2
def lowP (p : Pg) : Pg := p.clear.blit p.c 0 0 (halfOf p)
def high0 (p : Pg) : Pg := p.clear.blit p.c 0 (halfOf p) (cnt p.c - halfOf p)
def sepOf (p : Pg) : ByteArray := (p.c (halfOf p)).key
def highP (p : Pg) : Pg := if p.l = 0 then high0 p else (high0 p).set 0 ⟨(p.c (halfOf p)).st, dat ⟨#[]⟩ (p.c (halfOf p)).rst⟩
theorem clear_list (p : Pg) : (p.cs.toList.take 4 ++ (cs6 fun _ => czero).toList ++ p.cs.toList.drop (4 + (cs6 fun _ => czero).toList.length)).toArray = p.clear.cs := by
  simp [Pg.cs, cs6, Pg.clear]
theorem run_storeCells12 (w : World) (g : Nat) (p : Pg) (hb : Bk w g 38 p.cs) :
    (storeVar 36 ⟨g, 4, none⟩ (.agg (cs6 fun _ => czero))).run Tryz.prog w = .ok () (w.setRow g p.clear.cs) := by
  have h := run_storeCells_at Tryz.prog g 4 38 (cs6 fun _ => czero).toList 0 p.cs w hb (by show 4 + 12 ≤ 16; omega) (fun v hv => by
    simp [cs6, czero] at hv
    rcases hv with rfl | rfl | rfl | rfl | rfl | rfl | rfl | rfl | rfl | rfl | rfl | rfl <;> rfl)
  rw [show 4 + 0 = 4 from rfl, clear_list] at h
  have hsz : (Tryz.prog.info? 36).map (·.size) = some 12 := by kernel_rfl
  cases hq : Tryz.prog.info? 36 with
  | none => simp [hq] at hsz
  | some i =>
    have hs : i.size = 12 := by simpa [hq] using hsz
    have h12 : (cs6 fun _ => czero).size = 12 := rfl
    simp [storeVar, sizeOf, typeInfo, hq, Value.cells, hs, h12, h]
theorem store_clear {ops : Array Oper} {rest : List Oper} {o : Oper} {a : Act} {w : World} {Q : Exit → Act → World → Prop} (hgd : o.guard = none) (x y : Operand) (ho : o.op = .store 36 x y) (g : Nat) (p : Pg)
    (hx : a.eval x = .pointer (some ⟨g, 4, none⟩)) (hy : a.eval y = .agg (cs6 fun _ => czero)) (hb : Bk w g 38 p.cs) (h : wpList Tryz.prog ops Q rest (a.put o.dst undef) (w.setRow g p.clear.cs)) : wpList Tryz.prog ops Q (o :: rest) a w :=
  wpList_plain hgd fun _ hK => by
    unfold Oper.wp execOp
    simp only [ho, hx, hy, Instr.storeAt, Instr.sureAddr, Sem.run_bind, Sem.run_pure, Result.andThen_ok, run_storeCells12 w g p hb]
    exact hK _ _ h
theorem slice_all (g : Nat) (wx : World) : (Instr.sliceAt 36 (.pointer (some ⟨g, 4, none⟩)) none none none).run Tryz.prog wx = .ok (.slice (some ⟨g, 4, none⟩) 6 6) wx := by
  have hal : Tryz.prog.arrayLen 36 = 6 := by kernel_rfl
  have hel : Tryz.prog.elem 36 = 35 := by kernel_rfl
  obtain ⟨i0, hi0⟩ := info_of_underlying (P := Tryz.prog) Tryz.underlying35
  rw [run_sliceAt_array_all wx 36 _ (by rw [hal, hel]; exact Tryz.underlying36), hel, run_sizeOf wx hi0, hal]
  simp [slicedAt, Addr.add, Result.andThen]
theorem slice_h (g i : Nat) (hi : i ≤ 6) (wx : World) : (Instr.sliceAt 36 (.pointer (some ⟨g, 4, none⟩)) none (some (.int .i64 (i : Int))) none).run Tryz.prog wx = .ok (.slice (some ⟨g, 4, none⟩) i 6) wx := by
  have hal : Tryz.prog.arrayLen 36 = 6 := by kernel_rfl
  have hel : Tryz.prog.elem 36 = 35 := by kernel_rfl
  obtain ⟨i0, hi0⟩ := info_of_underlying (P := Tryz.prog) Tryz.underlying35
  rw [run_sliceAt_array_h wx 36 _ (by rw [hal, hel]; exact Tryz.underlying36) .i64 (i : Int) (by omega) (by rw [hal]; omega), hel, run_sizeOf wx hi0, hal]
  simp [slicedAt, Addr.add, Result.andThen]
theorem results4 {fn : Func} {p q u v : Tmp} {ty : TypeId} (hf : fn.results = #[.cell p ty, .cell q ty, .tmp u, .tmp v]) (tmps : Array Value) (P : Program) (w : World) :
    (results fn tmps).run P w =
      ((asAddr (tmps.getD p undef)).run P w).andThen fun a w₁ => ((loadVar ty a).run P w₁).andThen fun x w₂ => ((asAddr (tmps.getD q undef)).run P w₂).andThen fun b w₃ => ((loadVar ty b).run P w₃).andThen fun y w₄ => .ok (.tuple #[x, y, tmps.getD u undef, tmps.getD v undef]) w₄ := by
  simp only [results, hf]
  simp [Sem.run_bind, Result.andThen]
theorem res4 {fn : Func} {p q u v : Tmp} (hf : fn.results = #[.cell p 38, .cell q 38, .tmp u, .tmp v]) (tmps : Array Value) (w : World) (g h : Nat) (cs ds : Array Value)
    (hg : Bk w g 38 cs) (hh : Bk w h 38 ds) (h1 : cs.size = 16) (h2 : ds.size = 16) (hp : tmps.getD p undef = .pointer (some ⟨g, 0, none⟩)) (hq : tmps.getD q undef = .pointer (some ⟨h, 0, none⟩)) :
    (results fn tmps).run Tryz.prog w = .ok (.tuple #[.agg cs, .agg ds, tmps.getD u undef, tmps.getD v undef]) w := by
  rw [results4 hf, hp, hq]
  have e1 := run_loadPage w g cs hg h1
  have e2 := run_loadPage w h ds hh h2
  simp [asAddr, Sem.run_pure, Result.andThen, e1, e2]
/-- A load of a page, taken first. -/
theorem nheld_page {ops : Array Oper} {S : World → Prop} {o : Oper} {a : Act} (y : Operand) (ho : o.op = .load 38 y) (hw : Region.wanted o (yielded ops a.tmps) = true) (g : Nat) (p : Pg)
    (hx : a.eval y = .pointer (some ⟨g, 0, none⟩)) (hS : ∀ w, S w → Bk w g 38 p.cs) : YieldsIf Tryz.prog ops S o (.agg p.cs) a := by
  refine .inl ⟨hw, fun w h => ?_⟩
  unfold execOp
  simp only [ho, hx, Instr.loadAt, Instr.sureAddr, Sem.run_bind, Sem.run_pure, Result.andThen_ok, run_loadVar_row w g 38 38 p.cs (0, 0) _ (hS w h) Tryz.underlying38 rfl (by rw [show p.cs.size = 16 from rfl]; kernel_rfl)]
theorem nheld_move {ops : Array Oper} {S : World → Prop} {o : Oper} {a : Act} (y : Operand) (ho : o.op = .move y) (hw : Region.wanted o (yielded ops a.tmps) = true) : YieldsIf Tryz.prog ops S o (a.eval y) a :=
  .inl ⟨hw, fun w h => BigFrame.run_move y ho w⟩
theorem nheld_assign {ops : Array Oper} {S : World → Prop} {o : Oper} {a : Act} (y : Operand) (ho : o.op = .assign y) (hw : Region.wanted o (yielded ops a.tmps) = true) : YieldsIf Tryz.prog ops S o (a.eval y) a :=
  .inl ⟨hw, fun w h => BigFrame.run_assign y ho w⟩
theorem nheld_store {ops : Array Oper} {Q : Exit → Act → World → Prop} {K : Act → World → Prop} {i : Nat} {o : Oper} {a : Act} {w : World} (hi : ops[i]? = some o) (x y : Operand) (ho : o.op = .store 38 x y) (hd : o.dst = none) (hw : Region.wanted o (yielded ops a.tmps) = true) (g : Nat) (p q : Pg)
    (hx : a.eval x = .pointer (some ⟨g, 0, none⟩)) (hy : a.eval y = .agg p.cs) (hb : Bk w g 38 q.cs) (h : K a (w.setRow g p.cs)) : wpOp Tryz.prog ops Q i K a w := by
  unfold wpOp
  simp only [hi, hw, if_true]
  exact .inl (wp_store_row 38 x y ho g p.cs hx hy 38 q.cs hb (by rw [show p.cs.size = 16 from rfl]; kernel_rfl) rfl (by simp [Pg.cs, Value.oneCell']) (by rw [hd]; exact h))
theorem nheld_take {P : Program} {ops : Array Oper} {Q : Exit → Act → World → Prop} {md : Region.Mode} {S : World → Prop} {i : Nat} {oi : Oper} {v : Value} {fuel : Nat} {listed : Array Bool} {a : Act} {w : World} (d : Nat) (hi : ops[i]? = some oi) (hd : oi.dst = some d)
    (hs : Region.noSelect ops = true) (hf : Region.free md ops listed i = true) (hr : (Region.ready md ops listed).contains i = true)
    (hQ : ∀ c a w, Q (.panic c) (a.put (some d) v) w → Q (.panic c) a w) (hy : YieldsIf P ops S oi v a) (hS : S w)
    (h : wpAnyH P md ops Q S fuel (listed.setIfInBounds i true) (a.put (some d) v) w) : wpAnyH P md ops Q S (fuel + 1) listed a w :=
  wpAnyH_take hi hs hf hr (by rw [hd]; exact hQ) hy hS (by rw [hd]; exact h)
end Go.Proofs.YtelbioooggnbiaaGreat
namespace Go.Proofs.YtelbioooggnbiaaGreat
open Go.RowKit

theorem cs_set5 (p : Pg) (D : ByteArray) : p.cs.setIfInBounds 5 (.string D) = (p.set 0 ⟨(p.c 0).st, D⟩).cs := by simp [Pg.cs, Pg.set]
theorem rst_size1 (c : Ce) (h : c.d.size ≤ maxLen) : 1 + c.rst.size ≤ maxLen := by
  by_cases hs : c.says
  · rw [Ce.rst_yes hs, trest_size]
    have := hs.2.1
    unfold Tx at this
    omega
  · rw [Ce.rst_no hs]; show 1 + 0 ≤ maxLen; unfold maxLen; omega
def splitE (p : Pg) : Int := if cnt p.c < 2 then 1 else 0
set_option maxRecDepth 100000 in
set_option maxHeartbeats 1000000 in
theorem split_bad (p : Pg) (w : World) (h : cnt p.c < 2) :
    Calls Tryz.prog 112 #[p.v] w fun e w' => e = .returned (.tuple #[Pg.zero.v, Pg.zero.v, .string ⟨#[]⟩, .int .i64 1]) ∧ Below w.heap.size w w' := by
  have CC := Lib.hid (fun w => ncount_any p w)
  generalize cnt p.c = n at *
  have h2 : (n : Int) < 2 := by omega
  unfold Pg.v
  go_enter Tryz.func112, Tryz.ntmps112
  have k0 : Bk (((w.alloc (.cells p.cs 38)).alloc (.cells Pg.zero.cs 38)).alloc (.cells Pg.zero.cs 38)) w.heap.size 38 p.cs := ((Bk.new w _ _).alloc _).alloc _
  have y0 : Bk (((w.alloc (.cells p.cs 38)).alloc (.cells Pg.zero.cs 38)).alloc (.cells Pg.zero.cs 38)) (w.heap.size + 1) 38 Pg.zero.cs := (Bk.new2 w _ _ _).alloc _
  have z0 : Bk (((w.alloc (.cells p.cs 38)).alloc (.cells Pg.zero.cs 38)).alloc (.cells Pg.zero.cs 38)) (w.heap.size + 1 + 1) 38 Pg.zero.cs := Bk.new3 w _ _ _ _
  have b0 : Below w.heap.size w (((w.alloc (.cells p.cs 38)).alloc (.cells Pg.zero.cs 38)).alloc (.cells Pg.zero.cs 38)) := (((Below.refl _ _).alloc (Nat.le_refl _) _).alloc (by simp) _).alloc (by simp; omega) _
  have K0 := Lib.hid k0; have Y0 := Lib.hid y0; have Z0 := Lib.hid z0; have B0 := Lib.hid b0
  clear k0 y0 z0 b0
  go_wp2_with (refine load_page rfl (.tmp 1) rfl w.heap.size p rfl K0.out ?_)
  refine (CC.out _).mono ?_
  rintro e w2 ⟨rfl, hb2⟩
  have K2 := Lib.hid (K0.out.kept hb2); have Y2 := Lib.hid (Y0.out.kept hb2); have Z2 := Lib.hid (Z0.out.kept hb2)
  have B2 := Lib.hid (below_then B0.out hb2 B0.out.size)
  clear hb2 K0 Y0 Z0 B0 CC
  go_wp2_with (first | (refine store_page rfl (.tmp 2) (.tmp 17) rfl (w.heap.size + 1) Pg.zero Pg.zero rfl rfl Y2.out ?_) | (refine store_page rfl (.tmp 3) (.tmp 18) rfl (w.heap.size + 1 + 1) Pg.zero Pg.zero rfl rfl (row_far Z2.out (by omega)) ?_))
  refine bodyPost_ret (res4 rfl _ _ (w.heap.size + 1) (w.heap.size + 1 + 1) Pg.zero.cs Pg.zero.cs (row_far (row_bk Y2.out) (by omega)) (row_bk (q := Pg.zero) (row_far Z2.out (by omega))) rfl rfl rfl rfl) rfl ?_
  exact ⟨rfl, below_setRow (below_setRow B2.out (by omega) _) (by omega) _⟩
set_option maxRecDepth 100000 in
set_option maxHeartbeats 600000 in
theorem split_good (p : Pg) (w : World) (hs : Sz p.c) (h : 2 ≤ cnt p.c) :
    Calls Tryz.prog 112 #[p.v] w fun e w' => e = .returned (.tuple #[(lowP p).v, (highP p).v, .string (sepOf p), .int .i64 0]) ∧ Below w.heap.size w w' := by
  have CC := Lib.hid (fun w => ncount_any p w)
  have hn := cnt_le p.c
  have hlow : lowP p = p.clear.blit p.c 0 0 (halfOf p) := rfl
  have hhig : high0 p = p.clear.blit p.c 0 (halfOf p) (cnt p.c - halfOf p) := rfl
  have hhp : highP p = if p.l = 0 then high0 p else (high0 p).set 0 ⟨(p.c (halfOf p)).st, dat ⟨#[]⟩ (p.c (halfOf p)).rst⟩ := rfl
  have hse : sepOf p = (p.c (halfOf p)).key := rfl
  have hhf : halfOf p = (cnt p.c + 1) / 2 := rfl
  generalize halfOf p = f at *
  have hf6 : f < 6 := by omega
  have h0 : high0 p = p.clear.blit p.c 0 f (cnt p.c - f) := hhig
  have hc0 : (high0 p).c 0 = p.c f := by
    rw [h0]; simp only [Pg.blit]; rw [if_pos (by omega)]; simp
  have ck := fun w => key_any (p.c f) w (hs f hf6)
  have cd := fun w => data_any ⟨#[]⟩ (p.c f).rst w (by decide) (by have := rst_size1 _ (hs f hf6); show 1 + 0 + _ ≤ maxLen; omega)
  rw [← hse] at ck
  have CK := Lib.hid ck; have CD := Lib.hid cd
  clear ck cd hs hse
  generalize cnt p.c = n at *
  generalize hL : lowP p = Lo at *
  generalize hX : highP p = Hi at *
  generalize hY : high0 p = H0 at *
  generalize sepOf p = se at *
  generalize hD : dat ⟨#[]⟩ (p.c f).rst = D at *
  have HL := Lib.hid hlow; have HH := Lib.hid hhig; have HP := Lib.hid hhp; have HC := Lib.hid hc0; have HF := Lib.hid hhf
  have h2 : ¬ (n : Int) < 2 := by omega
  have q1 : ((n : Int) + 1) / 2 = (f : Int) := by omega
  have q2 : IntKind.i64.wrap ((n : Int) + 1) = (n : Int) + 1 := by simp [IntKind.wrap, IntKind.signed, IntKind.bits]; omega
  have q3 : ((n : Int) + 1).tdiv 2 = (f : Int) := by rw [Int.tdiv_eq_ediv_of_nonneg (by omega)]; exact q1
  have hfn : f ≤ n := by omega
  have hf1 : 1 ≤ n - f := by omega
  clear hlow hhig hhp hc0 hhf h hL hX hY hD h0
  unfold Ce.v at CK
  generalize hst : (p.c f).st = st at *
  generalize hdd : (p.c f).d = d at *
  generalize (p.c f).rst = rs at *
  generalize decide (p.c f).says = sy at *
  have HST := Lib.hid hst; have HDD := Lib.hid hdd
  clear hst hdd
  unfold Pg.v
  go_enter Tryz.func112, Tryz.ntmps112
  have k0 : Bk (((w.alloc (.cells p.cs 38)).alloc (.cells Pg.zero.cs 38)).alloc (.cells Pg.zero.cs 38)) w.heap.size 38 p.cs := ((Bk.new w _ _).alloc _).alloc _
  have y0 : Bk (((w.alloc (.cells p.cs 38)).alloc (.cells Pg.zero.cs 38)).alloc (.cells Pg.zero.cs 38)) (w.heap.size + 1) 38 Pg.zero.cs := (Bk.new2 w _ _ _).alloc _
  have z0 : Bk (((w.alloc (.cells p.cs 38)).alloc (.cells Pg.zero.cs 38)).alloc (.cells Pg.zero.cs 38)) (w.heap.size + 1 + 1) 38 Pg.zero.cs := Bk.new3 w _ _ _ _
  have b0 : Below w.heap.size w (((w.alloc (.cells p.cs 38)).alloc (.cells Pg.zero.cs 38)).alloc (.cells Pg.zero.cs 38)) := (((Below.refl _ _).alloc (Nat.le_refl _) _).alloc (by simp) _).alloc (by simp; omega) _
  have K0 := Lib.hid k0; have Y0 := Lib.hid y0; have Z0 := Lib.hid z0; have B0 := Lib.hid b0
  clear k0 y0 z0 b0
  go_wp2_with (refine load_page rfl (.tmp 1) rfl w.heap.size p rfl K0.out ?_)
  refine (CC.out _).mono ?_
  rintro e w2 ⟨rfl, hb2⟩
  have K2 := Lib.hid (K0.out.kept hb2); have Y2 := Lib.hid (Y0.out.kept hb2); have Z2 := Lib.hid (Z0.out.kept hb2)
  have B2 := Lib.hid (below_then B0.out hb2 B0.out.size)
  clear hb2 K0 Y0 Z0 B0 CC
  trace "T1"
  have g8 : Bk ((w2.alloc (.cells Pg.zero.cs 38)).alloc (.cells Pg.zero.cs 38)) w2.heap.size 38 Pg.zero.cs := (Bk.new w2 _ _).alloc _
  have g9 : Bk ((w2.alloc (.cells Pg.zero.cs 38)).alloc (.cells Pg.zero.cs 38)) (w2.heap.size + 1) 38 Pg.zero.cs := Bk.new2 w2 _ _ _
  have Z8 := Lib.hid g8; have Z9 := Lib.hid g9
  have K5 := Lib.hid ((K2.out.alloc (.cells Pg.zero.cs 38)).alloc (.cells Pg.zero.cs 38))
  have Y5 := Lib.hid ((Y2.out.alloc (.cells Pg.zero.cs 38)).alloc (.cells Pg.zero.cs 38))
  have X5 := Lib.hid ((Z2.out.alloc (.cells Pg.zero.cs 38)).alloc (.cells Pg.zero.cs 38))
  have hz2 := B2.out.size
  have l2 := K2.out.lt; have ly := Y2.out.lt; have lz := Z2.out.lt
  have B5 := Lib.hid ((B2.out.alloc hz2 (.cells Pg.zero.cs 38)).alloc (by simp; omega) (.cells Pg.zero.cs 38))
  have LT := Lib.hid (And.intro l2 (And.intro ly lz))
  clear g8 g9 l2 ly lz hz2
  obtain ⟨l2, ly, lz⟩ := LT.out
  have m1 : Bk (((w2.alloc (.cells Pg.zero.cs 38)).alloc (.cells Pg.zero.cs 38)).setRow w2.heap.size p.cs) (w2.heap.size + 1) 38 Pg.zero.cs := row_far Z9.out (by omega)
  have m2 : Bk ((((w2.alloc (.cells Pg.zero.cs 38)).alloc (.cells Pg.zero.cs 38)).setRow w2.heap.size p.cs).setRow (w2.heap.size + 1) p.cs) w2.heap.size 38 p.cs := row_far (row_bk (q := Pg.zero) Z8.out) (by omega)
  have m3 : Bk (((((w2.alloc (.cells Pg.zero.cs 38)).alloc (.cells Pg.zero.cs 38)).setRow w2.heap.size p.cs).setRow (w2.heap.size + 1) p.cs).setRow w2.heap.size p.clear.cs) (w2.heap.size + 1) 38 p.cs := row_far (row_bk (q := Pg.zero) m1) (by omega)
  have M1 := Lib.hid m1; have M2 := Lib.hid m2; have M3 := Lib.hid m3
  clear m1 m2 m3 l2 ly lz
  have tokA : True := trivial
  go_wp2_with (first | (have _t := tokA; refine load_page rfl (.tmp 1) rfl w.heap.size p rfl K2.out ?_; clear _t) | (have _t := tokA; refine store_page rfl (.tmp 8) (.tmp 22) rfl w2.heap.size p Pg.zero rfl rfl Z8.out ?_; clear tokA _t; have tokB : True := trivial) | (have _t := tokB; refine store_page rfl (.tmp 9) (.tmp 23) rfl (w2.heap.size + 1) p Pg.zero rfl rfl M1.out ?_; clear tokB _t; have tokC : True := trivial) | (have _t := tokC; refine store_clear rfl (.tmp 25) (.tmp 24) rfl w2.heap.size p rfl rfl M2.out ?_; clear tokC _t; have tokD : True := trivial) | (have _t := tokD; refine store_clear rfl (.tmp 27) (.tmp 26) rfl (w2.heap.size + 1) p rfl rfl M3.out ?_; clear tokD _t))
  go_frame
  obtain ⟨l2, ly, lz⟩ := LT.out
  have hz2 := B2.out.size
  have k9 := row_far (g := w2.heap.size + 1) (cs := p.clear.cs) (row_far (g := w2.heap.size) (cs := p.clear.cs) (row_far (g := w2.heap.size + 1) (cs := p.cs) (row_far (g := w2.heap.size) (cs := p.cs) K5.out (by omega)) (by omega)) (by omega)) (by omega)
  have y9 := row_far (g := w2.heap.size + 1) (cs := p.clear.cs) (row_far (g := w2.heap.size) (cs := p.clear.cs) (row_far (g := w2.heap.size + 1) (cs := p.cs) (row_far (g := w2.heap.size) (cs := p.cs) Y5.out (by omega)) (by omega)) (by omega)) (by omega)
  have x9 := row_far (g := w2.heap.size + 1) (cs := p.clear.cs) (row_far (g := w2.heap.size) (cs := p.clear.cs) (row_far (g := w2.heap.size + 1) (cs := p.cs) (row_far (g := w2.heap.size) (cs := p.cs) X5.out (by omega)) (by omega)) (by omega)) (by omega)
  have a9 := row_far (g := w2.heap.size + 1) (cs := p.clear.cs) (row_bk (p := p.clear) M2.out) (by omega)
  have c9 := row_bk (p := p.clear) M3.out
  have b9 := below_setRow (below_setRow (below_setRow (below_setRow B5.out hz2 p.cs) (show w.heap.size ≤ w2.heap.size + 1 by omega) p.cs) hz2 p.clear.cs) (show w.heap.size ≤ w2.heap.size + 1 by omega) p.clear.cs
  have K9 := Lib.hid k9; have Y9 := Lib.hid y9; have X9 := Lib.hid x9; have A9 := Lib.hid a9; have C9 := Lib.hid c9; have B9 := Lib.hid b9
  clear k9 y9 x9 a9 c9 b9 K5 Y5 X5 M1 M2 M3 Z8 Z9 B5 l2 ly lz hz2
  generalize hG : w2.heap.size = G at *
  have HZ2 := Lib.hid (show w.heap.size ≤ G by have := B2.out.size; omega)
  clear hG
  generalize hw9 : World.setRow _ (G + 1) p.clear.cs = w9
  have K9 : Hid (Bk w9 w.heap.size 38 p.cs) := Lib.hid (by rw [← hw9]; exact K9.out)
  have Y9 : Hid (Bk w9 (w.heap.size + 1) 38 Pg.zero.cs) := Lib.hid (by rw [← hw9]; exact Y9.out)
  have X9 : Hid (Bk w9 (w.heap.size + 1 + 1) 38 Pg.zero.cs) := Lib.hid (by rw [← hw9]; exact X9.out)
  have A9 : Hid (Bk w9 G 38 p.clear.cs) := Lib.hid (by rw [← hw9]; exact A9.out)
  have C9 : Hid (Bk w9 (G + 1) 38 p.clear.cs) := Lib.hid (by rw [← hw9]; exact C9.out)
  have B9 : Hid (Below w.heap.size w w9) := Lib.hid (by rw [← hw9]; exact B9.out)
  clear hw9
  have HLT := Lib.hid (show w.heap.size + 1 + 1 < G from LT.out.2.2)
  clear LT B2 K2 Y2 Z2
  have s1 := fun wx => slice_all G wx
  have s2 := fun wx => slice_h w.heap.size f (by omega) wx
  obtain ⟨w10, hcp, k10, g10, z10⟩ := run_copy_page w9.drew (some ⟨G, 4, none⟩) (some ⟨w.heap.size, 4, none⟩) 6 6 f 6 G w.heap.size p.clear p 0 0 f A9.out.drew K9.out.drew (by simp [Nat.min_def]; omega) (by omega) (by omega) (fun h => ⟨rfl, rfl⟩)
  rw [← HL.out] at k10
  have G10 := Lib.hid g10; have A10 := Lib.hid k10
  clear k10 g10 z10
  go_region
  have K10 := Lib.hid (K9.out.drew.grown G10.out (by have := HLT.out; simp; omega)); have Y10 := Lib.hid (Y9.out.drew.grown G10.out (by have := HLT.out; simp; omega))
  have X10 := Lib.hid (X9.out.drew.grown G10.out (by have := HLT.out; simp; omega)); have C10 := Lib.hid (C9.out.drew.grown G10.out (by simp))
  have B10 := Lib.hid (below_grow B9.out.drew G10.out (fun k hk => by injection hk with hk; have := HLT.out; omega) B9.out.size)
  clear hcp s1 s2 K9 Y9 X9 A9 C9 B9 G10
  go_wp2_with fail
  have s1 := fun wx => slice_all (G + 1) wx
  have s2 := fun wx => slice_lh w.heap.size f n hfn hn (f : Int) (n : Int) rfl rfl wx
  rw [if_neg (show ¬ 6 = f by omega)] at s2
  obtain ⟨m, hm⟩ : ∃ m, m = n - f := ⟨_, rfl⟩
  rw [← hm] at s2
  generalize 6 - f = q6 at s2
  obtain ⟨w11, hcp, k11, g11, z11⟩ := run_copy_page w10.drew (some ⟨G + 1, 4, none⟩) (some ⟨w.heap.size, 4 + f * 2, none⟩) 6 6 m q6 (G + 1) w.heap.size p.clear p 0 f m C10.out.drew K10.out.drew (by simp [Nat.min_def]; omega) (by omega) (by omega) (fun h => ⟨rfl, rfl⟩)
  rw [hm, ← HH.out] at k11
  have G11 := Lib.hid g11; have C11 := Lib.hid k11; have HM := Lib.hid hm
  clear k11 g11 z11 hm
  go_region
  have K11 := Lib.hid (K10.out.drew.grown G11.out (by have := HLT.out; simp; omega)); have Y11 := Lib.hid (Y10.out.drew.grown G11.out (by have := HLT.out; simp; omega))
  have X11 := Lib.hid (X10.out.drew.grown G11.out (by have := HLT.out; simp; omega)); have A11 := Lib.hid (A10.out.drew.grown G11.out (by simp))
  have B11 := Lib.hid (below_grow B10.out.drew G11.out (fun k hk => by injection hk with hk; have := HLT.out; omega) B10.out.size)
  clear hcp s1 s2 K10 Y10 X10 A10 C10 B10 G11 HM
  obtain ⟨v0, v1⟩ := pg_cell C11.out 0 (by omega)
  rw [HC.out, HST.out] at v0
  rw [HC.out, HDD.out] at v1
  simp only [Nat.zero_mul, Nat.add_zero, Nat.reduceAdd] at v0 v1
  go_wp2_with fail
  refine (CK.out _).mono ?_
  rintro e w12 ⟨rfl, hb⟩
  have K12 := Lib.hid (K11.out.kept hb); have Y12 := Lib.hid (Y11.out.kept hb); have X12 := Lib.hid (X11.out.kept hb); have A12 := Lib.hid (A11.out.kept hb); have C12 := Lib.hid (C11.out.kept hb)
  have B12 := Lib.hid (below_then B11.out hb B11.out.size)
  clear hb v0 v1 K11 Y11 X11 A11 C11 B11 CK
  have x1 := (pg_head K12.out).2.1
  by_cases hl : p.l = 0
  · rw [hl] at x1
    have HI := HP.out
    rw [if_pos hl] at HI
    subst HI
    go_wp2_with fail
    refine wp_region_held (S := fun w' => Bk w' G 38 Lo.cs ∧ Bk w' (G + 1) 38 Hi.cs) (by kernel_rfl) ?_
    refine nheld_take (fuel := 6) (i := 0) 57 rfl rfl (by kernel_rfl) (by kernel_rfl) (by kernel_rfl) (fun _ _ _ h => h) (nheld_page _ rfl (by kernel_rfl) G Lo rfl (fun w h => h.1)) ⟨A12.out.drew, C12.out.drew⟩ ?_
    refine nheld_take (fuel := 5) (i := 1) 58 rfl rfl (by kernel_rfl) (by kernel_rfl) (by kernel_rfl) (fun _ _ _ h => h) (nheld_page _ rfl (by kernel_rfl) (G + 1) Hi rfl (fun w h => h.2)) ⟨A12.out.drew, C12.out.drew⟩ ?_
    refine nheld_take (fuel := 4) (i := 2) 59 rfl rfl (by kernel_rfl) (by kernel_rfl) (by kernel_rfl) (fun _ _ _ h => h) (nheld_move _ rfl (by kernel_rfl)) ⟨A12.out.drew, C12.out.drew⟩ ?_
    simp only [Act.put, List.setIfInBounds_toArray, List.set_cons_succ, List.set_cons_zero]
    have hlt := HLT.out
    refine wpAnyH_all (fuel := 3) (rs := [3]) (by kernel_rfl) (by decide) ?_
    intro i hi
    obtain rfl : i = 3 := by simpa using hi
    refine nheld_store rfl _ _ rfl rfl (by kernel_rfl) (w.heap.size + 1) Lo Pg.zero rfl rfl Y12.out.drew ⟨⟨row_far A12.out.drew (by omega), row_far C12.out.drew (by omega)⟩, ?_⟩
    refine wpAnyH_all (fuel := 2) (rs := [4]) (by kernel_rfl) (by decide) ?_
    intro i hi
    obtain rfl : i = 4 := by simpa using hi
    refine nheld_store rfl _ _ rfl rfl (by kernel_rfl) (w.heap.size + 1 + 1) Hi Pg.zero rfl rfl (row_far X12.out.drew (by omega)) ⟨⟨row_far (row_far A12.out.drew (by omega)) (by omega), row_far (row_far C12.out.drew (by omega)) (by omega)⟩, ?_⟩
    refine nheld_take (fuel := 1) (i := 5) 4 rfl rfl (by kernel_rfl) (by kernel_rfl) (by kernel_rfl) (fun _ _ _ h => h) (nheld_assign _ rfl (by kernel_rfl)) ⟨row_far (row_far A12.out.drew (by omega)) (by omega), row_far (row_far C12.out.drew (by omega)) (by omega)⟩ ?_
    refine nheld_take (fuel := 0) (i := 6) 5 rfl rfl (by kernel_rfl) (by kernel_rfl) (by kernel_rfl) (fun _ _ _ h => h) (nheld_assign _ rfl (by kernel_rfl)) ⟨row_far (row_far A12.out.drew (by omega)) (by omega), row_far (row_far C12.out.drew (by omega)) (by omega)⟩ ?_
    refine wpAnyH_done (by kernel_rfl) ?_ _
    simp only [Act.put, Act.eval, List.setIfInBounds_toArray, List.set_cons_succ, List.set_cons_zero]
    generalize hW : World.setRow _ (w.heap.size + 1 + 1) Hi.cs = wF
    have fY : Bk wF (w.heap.size + 1) 38 Lo.cs := by rw [← hW]; exact (row_far (row_bk (q := Pg.zero) Y12.out.drew) (by omega))
    have fX : Bk wF (w.heap.size + 1 + 1) 38 Hi.cs := by rw [← hW]; exact (row_bk (q := Pg.zero) (row_far X12.out.drew (by omega)))
    have fB : Below w.heap.size w wF := by rw [← hW]; exact below_setRow (below_setRow B12.out.drew (by omega) _) (by omega) _
    have FY := Lib.hid fY; have FX := Lib.hid fX; have FB := Lib.hid fB
    clear fY fX fB hW
    go_wp2
    refine bodyPost_ret (res4 rfl _ _ (w.heap.size + 1) (w.heap.size + 1 + 1) Lo.cs Hi.cs FY.out FX.out rfl rfl rfl rfl) rfl ?_
    exact ⟨rfl, FB.out⟩
  · have hl' : (p.l != 0) = true := by simp [hl]
    have HI := HP.out
    rw [if_neg hl] at HI
    have HIH := Lib.hid HI
    clear HI hl
    go_wp2_with fail
    refine (CD.out _).mono ?_
    rintro e w13 ⟨rfl, hb⟩
    have Y13 := Lib.hid (Y12.out.kept hb); have X13 := Lib.hid (X12.out.kept hb); have A13 := Lib.hid (A12.out.kept hb); have C13 := Lib.hid (C12.out.kept hb)
    have B13 := Lib.hid (below_then B12.out hb B12.out.size)
    clear hb x1 K12 Y12 X12 A12 C12 B12 CD
    have v1 := (pg_cell C13.out 0 (by omega)).2
    have e1 := C13.out.fz 5
    simp only [Nat.zero_mul, Nat.add_zero, Nat.reduceAdd] at v1
    have c14 : Bk (w13.setCell ⟨G + 1, 5, none⟩ (.string D)) (G + 1) 38 Hi.cs := by
      have := C13.out.set 5 (.string D)
      rw [cs_set5, HC.out, HST.out, ← HIH.out] at this
      exact this
    have hlt0 := HLT.out
    have C14 := Lib.hid c14
    have Y14 := Lib.hid (Y13.out.far (p := ⟨G + 1, 5, none⟩) (by simp; omega) (.string D)); have X14 := Lib.hid (X13.out.far (p := ⟨G + 1, 5, none⟩) (by simp; omega) (.string D)); have A14 := Lib.hid (A13.out.far (p := ⟨G + 1, 5, none⟩) (by simp) (.string D))
    have B14 := Lib.hid (B13.out.setCell (p := ⟨G + 1, 5, none⟩) (by simp; omega) (.string D))
    clear c14 hlt0 Y13 X13 A13 C13 B13
    go_wp2_with fail
    refine wp_region_held (S := fun w' => Bk w' G 38 Lo.cs ∧ Bk w' (G + 1) 38 Hi.cs) (by kernel_rfl) ?_
    refine nheld_take (fuel := 6) (i := 0) 57 rfl rfl (by kernel_rfl) (by kernel_rfl) (by kernel_rfl) (fun _ _ _ h => h) (nheld_page _ rfl (by kernel_rfl) G Lo rfl (fun w h => h.1)) ⟨A14.out.drew, C14.out.drew⟩ ?_
    refine nheld_take (fuel := 5) (i := 1) 58 rfl rfl (by kernel_rfl) (by kernel_rfl) (by kernel_rfl) (fun _ _ _ h => h) (nheld_page _ rfl (by kernel_rfl) (G + 1) Hi rfl (fun w h => h.2)) ⟨A14.out.drew, C14.out.drew⟩ ?_
    refine nheld_take (fuel := 4) (i := 2) 59 rfl rfl (by kernel_rfl) (by kernel_rfl) (by kernel_rfl) (fun _ _ _ h => h) (nheld_move _ rfl (by kernel_rfl)) ⟨A14.out.drew, C14.out.drew⟩ ?_
    simp only [Act.put, List.setIfInBounds_toArray, List.set_cons_succ, List.set_cons_zero]
    have hlt := HLT.out
    refine wpAnyH_all (fuel := 3) (rs := [3]) (by kernel_rfl) (by decide) ?_
    intro i hi
    obtain rfl : i = 3 := by simpa using hi
    refine nheld_store rfl _ _ rfl rfl (by kernel_rfl) (w.heap.size + 1) Lo Pg.zero rfl rfl Y14.out.drew ⟨⟨row_far A14.out.drew (by omega), row_far C14.out.drew (by omega)⟩, ?_⟩
    refine wpAnyH_all (fuel := 2) (rs := [4]) (by kernel_rfl) (by decide) ?_
    intro i hi
    obtain rfl : i = 4 := by simpa using hi
    refine nheld_store rfl _ _ rfl rfl (by kernel_rfl) (w.heap.size + 1 + 1) Hi Pg.zero rfl rfl (row_far X14.out.drew (by omega)) ⟨⟨row_far (row_far A14.out.drew (by omega)) (by omega), row_far (row_far C14.out.drew (by omega)) (by omega)⟩, ?_⟩
    refine nheld_take (fuel := 1) (i := 5) 4 rfl rfl (by kernel_rfl) (by kernel_rfl) (by kernel_rfl) (fun _ _ _ h => h) (nheld_assign _ rfl (by kernel_rfl)) ⟨row_far (row_far A14.out.drew (by omega)) (by omega), row_far (row_far C14.out.drew (by omega)) (by omega)⟩ ?_
    refine nheld_take (fuel := 0) (i := 6) 5 rfl rfl (by kernel_rfl) (by kernel_rfl) (by kernel_rfl) (fun _ _ _ h => h) (nheld_assign _ rfl (by kernel_rfl)) ⟨row_far (row_far A14.out.drew (by omega)) (by omega), row_far (row_far C14.out.drew (by omega)) (by omega)⟩ ?_
    refine wpAnyH_done (by kernel_rfl) ?_ _
    simp only [Act.put, Act.eval, List.setIfInBounds_toArray, List.set_cons_succ, List.set_cons_zero]
    generalize hW : World.setRow _ (w.heap.size + 1 + 1) Hi.cs = wF
    have fY : Bk wF (w.heap.size + 1) 38 Lo.cs := by rw [← hW]; exact (row_far (row_bk (q := Pg.zero) Y14.out.drew) (by omega))
    have fX : Bk wF (w.heap.size + 1 + 1) 38 Hi.cs := by rw [← hW]; exact (row_bk (q := Pg.zero) (row_far X14.out.drew (by omega)))
    have fB : Below w.heap.size w wF := by rw [← hW]; exact below_setRow (below_setRow B14.out.drew (by omega) _) (by omega) _
    have FY := Lib.hid fY; have FX := Lib.hid fX; have FB := Lib.hid fB
    clear fY fX fB hW
    go_wp2
    refine bodyPost_ret (res4 rfl _ _ (w.heap.size + 1) (w.heap.size + 1 + 1) Lo.cs Hi.cs FY.out FX.out rfl rfl rfl rfl) rfl ?_
    exact ⟨rfl, FB.out⟩
end Go.Proofs.YtelbioooggnbiaaGreat
