/- The walk of PlanPure. -/
import Derived.Test.YtokghbppdmlfkaaDoorPlnAwake
import Derived.Test.YtokghbppdmlfkaaDoorKept
import Derived.RegionTactic
import Derived.ChangeAlike
import Derived.BigRegion
set_option linter.unusedVariables false
set_option linter.unusedSimpArgs false
namespace Go.Proofs.YtokghbppdmlfkaaDoor
open Go.RowKit

theorem needsL_congr (o p : Opn) (nx : ByteArray) (ks : List ByteArray) (err : Int) : needsL { o with val := p.val, at_ := p.at_, len := p.len } nx ks err = needsL o nx ks err := rfl
/-- What came in for PlanPure. -/
def plcs (o : Opn) (nx : ByteArray) (kv : Value) (err : Int) : Array Value := #[.int .i64 o.k, .int .i64 o.st, .string o.key, .string o.val, .int .i64 o.num, .int .i64 o.at_, .int .i64 o.len, .string nx, kv, .int .i64 err]

set_option maxRecDepth 100000 in
set_option maxHeartbeats 4000000 in
theorem pure_core (o p : Opn) (nx : ByteArray) (kv : Value) (ks : List ByteArray) (err : Int) (w : World) (hT : Tab w) (hK : TxAt w w.heap.size kv ks) (hn : ks.length ≤ 1500000) (lo : -9223372036854775808 ≤ o.num) (hi : o.num ≤ 9223372036854775807) :
    Calls Tryd.prog 5 #[.agg (plcs o nx kv err), .agg p.cs] w fun e w' => e = .returned (.bool true) ∧ Below w.heap.size w w' := by
  have CA := Lib.hid awake_any
  have HT := Lib.hid hT; have HK := Lib.hid hK; have HN := Lib.hid hn; have LO := Lib.hid lo; have HI := Lib.hid hi
  have CN1 := Lib.hid (fun w' (h : Pk w' o o kv ks) => needs_any o o nx kv ks 0 w' h)
  have CN2 := Lib.hid (fun w' (h : Pk w' o { o with val := p.val, at_ := p.at_, len := p.len } kv ks) => needs_any o { o with val := p.val, at_ := p.at_, len := p.len } nx kv ks 0 w' h)
  have EQ := Lib.hid (needsL_congr o p nx ks 0)
  obtain ⟨ka, kc, rfl, _, _⟩ := hK
  clear hT hn lo hi
  have CQ := Lib.hid (show ∀ w', Pk w' o { o with val := p.val, at_ := p.at_, len := p.len } (.slice ka ks.length kc) ks → Calls Tryd.prog 7 #[.iface 32 (.agg #[.int .i64 o.k, .int .i64 o.st, .string o.key, .string o.val, .int .i64 o.num, .int .i64 o.at_, .int .i64 o.len, .string nx, .slice ka ks.length kc, .int .i64 0]), .agg #[.int .i64 o.k, .int .i64 o.st, .string o.key, .string p.val, .int .i64 o.num, .int .i64 p.at_, .int .i64 p.len]] w' (NeedsPost (needsL o nx ks 0) w') from fun w' h => by have := CN2.out w' h; rw [EQ.out] at this; exact this)
  have CP := Lib.hid (show ∀ w', Pk w' o o (.slice ka ks.length kc) ks → Calls Tryd.prog 7 #[.iface 32 (.agg #[.int .i64 o.k, .int .i64 o.st, .string o.key, .string o.val, .int .i64 o.num, .int .i64 o.at_, .int .i64 o.len, .string nx, .slice ka ks.length kc, .int .i64 0]), .agg #[.int .i64 o.k, .int .i64 o.st, .string o.key, .string o.val, .int .i64 o.num, .int .i64 o.at_, .int .i64 o.len]] w' (NeedsPost (needsL o nx ks 0) w') from CN1.out)
  have PK := Lib.hid (fun (w' : World) (hb : Below w.heap.size w w') => show Pk w' o o (.slice ka ks.length kc) ks from ⟨HT.out.below hb, (HK.out.below hb (Nat.le_refl _)).mono hb.size, HN.out, rfl, rfl, rfl, LO.out, HI.out⟩)
  have PQ := Lib.hid (fun (w' : World) (hb : Below w.heap.size w w') => show Pk w' o { o with val := p.val, at_ := p.at_, len := p.len } (.slice ka ks.length kc) ks from ⟨HT.out.below hb, (HK.out.below hb (Nat.le_refl _)).mono hb.size, HN.out, rfl, rfl, rfl, LO.out, HI.out⟩)
  have B0 := Lib.hid (show Below w.heap.size w (((w.alloc (.cells #[.int .i64 o.k, .int .i64 o.st, .string o.key, .string o.val, .int .i64 o.num, .int .i64 o.at_, .int .i64 o.len, .string nx, .slice ka ks.length kc, .int .i64 err] 26)).alloc (.cells #[.int .i64 p.k, .int .i64 p.st, .string p.key, .string p.val, .int .i64 p.num, .int .i64 p.at_, .int .i64 p.len] 23)).alloc (.cells #[.int .i64 o.k, .int .i64 o.st, .string o.key, .string o.val, .int .i64 o.num, .int .i64 o.at_, .int .i64 o.len] 23)).drew from ((((Below.refl w.heap.size w).alloc (Nat.le_refl _) _).alloc (by simp) _).alloc (by simp; omega) _).drew)
  have KB := Lib.hid (show Bk (((w.alloc (.cells #[.int .i64 o.k, .int .i64 o.st, .string o.key, .string o.val, .int .i64 o.num, .int .i64 o.at_, .int .i64 o.len, .string nx, .slice ka ks.length kc, .int .i64 err] 26)).alloc (.cells #[.int .i64 p.k, .int .i64 p.st, .string p.key, .string p.val, .int .i64 p.num, .int .i64 p.at_, .int .i64 p.len] 23)).alloc (.cells #[.int .i64 o.k, .int .i64 o.st, .string o.key, .string o.val, .int .i64 o.num, .int .i64 o.at_, .int .i64 o.len] 23)).drew (w.heap.size + 1) 23 #[.int .i64 p.k, .int .i64 p.st, .string p.key, .string p.val, .int .i64 p.num, .int .i64 p.at_, .int .i64 p.len] from ((Bk.new2 w _ _ _).alloc _).drew)
  have KC := Lib.hid (show Bk (((w.alloc (.cells #[.int .i64 o.k, .int .i64 o.st, .string o.key, .string o.val, .int .i64 o.num, .int .i64 o.at_, .int .i64 o.len, .string nx, .slice ka ks.length kc, .int .i64 err] 26)).alloc (.cells #[.int .i64 p.k, .int .i64 p.st, .string p.key, .string p.val, .int .i64 p.num, .int .i64 p.at_, .int .i64 p.len] 23)).alloc (.cells #[.int .i64 o.k, .int .i64 o.st, .string o.key, .string o.val, .int .i64 o.num, .int .i64 o.at_, .int .i64 o.len] 23)).drew (w.heap.size + 1 + 1) 23 #[.int .i64 o.k, .int .i64 o.st, .string o.key, .string o.val, .int .i64 o.num, .int .i64 o.at_, .int .i64 o.len] from (Bk.new3 w _ _ _ _).drew)
  clear CN1 CN2 EQ
  unfold plcs Opn.cs at *
  unfold NeedsPost at CP CQ
  generalize needsL o nx ks 0 = nl at *
  go_enter Tryd.func5, Tryd.ntmps5
  go_wp2_with fail
  go_region
  generalize (((w.alloc (.cells #[.int .i64 o.k, .int .i64 o.st, .string o.key, .string o.val, .int .i64 o.num, .int .i64 o.at_, .int .i64 o.len, .string nx, .slice ka ks.length kc, .int .i64 err] 26)).alloc (.cells #[.int .i64 p.k, .int .i64 p.st, .string p.key, .string p.val, .int .i64 p.num, .int .i64 p.at_, .int .i64 p.len] 23)).alloc (.cells #[.int .i64 o.k, .int .i64 o.st, .string o.key, .string o.val, .int .i64 o.num, .int .i64 o.at_, .int .i64 o.len] 23)).drew = w0 at *
  go_wp2_with fail
  refine (CA.out _ (HT.out.below B0.out)).mono ?_
  rintro e w1 ⟨rfl, hb⟩
  have B1 := Lib.hid (below_then B0.out hb B0.out.size); have KB1 := Lib.hid (KB.out.kept hb); have KC1 := Lib.hid (KC.out.kept hb)
  have c0 : w1.cell? ⟨w.heap.size + 1 + 1, 0, none⟩ = some (.int .i64 o.k) := KC1.out.cell 0; have c1 : w1.cell? ⟨w.heap.size + 1 + 1, 1, none⟩ = some (.int .i64 o.st) := KC1.out.cell 1; have c2 : w1.cell? ⟨w.heap.size + 1 + 1, 2, none⟩ = some (.string o.key) := KC1.out.cell 2; have c3 : w1.cell? ⟨w.heap.size + 1 + 1, 3, none⟩ = some (.string o.val) := KC1.out.cell 3; have c4 : w1.cell? ⟨w.heap.size + 1 + 1, 4, none⟩ = some (.int .i64 o.num) := KC1.out.cell 4; have c5 : w1.cell? ⟨w.heap.size + 1 + 1, 5, none⟩ = some (.int .i64 o.at_) := KC1.out.cell 5; have c6 : w1.cell? ⟨w.heap.size + 1 + 1, 6, none⟩ = some (.int .i64 o.len) := KC1.out.cell 6
  have D2 := Lib.hid (Bk.new w1 23 #[.int .i64 o.k, .int .i64 o.st, .string o.key, .string o.val, .int .i64 o.num, .int .i64 o.at_, .int .i64 o.len]); have KB2 := Lib.hid (KB1.out.alloc (.cells #[.int .i64 o.k, .int .i64 o.st, .string o.key, .string o.val, .int .i64 o.num, .int .i64 o.at_, .int .i64 o.len] 23)); have KC2 := Lib.hid (KC1.out.alloc (.cells #[.int .i64 o.k, .int .i64 o.st, .string o.key, .string o.val, .int .i64 o.num, .int .i64 o.at_, .int .i64 o.len] 23)); have B2 := Lib.hid (B1.out.alloc B1.out.size (.cells #[.int .i64 o.k, .int .i64 o.st, .string o.key, .string o.val, .int .i64 o.num, .int .i64 o.at_, .int .i64 o.len] 23))
  have gb := KB1.out.lt; have gc := KC1.out.lt
  have GB := Lib.hid gb; have GC := Lib.hid gc
  clear hb B0 KB KC CA gb gc
  go_wp2_with fail
  clear c0 c1 c2 c3 c4 c5 c6
  generalize w1.alloc (.cells #[.int .i64 o.k, .int .i64 o.st, .string o.key, .string o.val, .int .i64 o.num, .int .i64 o.at_, .int .i64 o.len] 23) = w2 at *
  generalize w1.heap.size = D at *
  have d3 : w2.cell? ⟨w.heap.size + 1, 3, none⟩ = some (.string p.val) := KB2.out.cell 3; have d5 : w2.cell? ⟨w.heap.size + 1, 5, none⟩ = some (.int .i64 p.at_) := KB2.out.cell 5; have d6 : w2.cell? ⟨w.heap.size + 1, 6, none⟩ = some (.int .i64 p.len) := KB2.out.cell 6
  have e3 : w2.cell? ⟨D, 3, none⟩ = some (.string o.val) := D2.out.cell 3; have e5 : w2.cell? ⟨D, 5, none⟩ = some (.int .i64 o.at_) := D2.out.cell 5; have e6 : w2.cell? ⟨D, 6, none⟩ = some (.int .i64 o.len) := D2.out.cell 6
  have f3 := D2.out.fz 3; have f5 := D2.out.fz 5; have f6 := D2.out.fz 6
  have ne : w.heap.size + 1 ≠ D := by have := GB.out; omega
  have ne' : D ≠ w.heap.size + 1 := by have := GB.out; omega
  go_region
  clear d3 d5 d6 e3 e5 e6 f3 f5 f6 ne ne'
  have D3 := Lib.hid (show Bk (((w2.setCell ⟨D, 3, none⟩ (.string p.val)).setCell ⟨D, 5, none⟩ (.int .i64 p.at_)).setCell ⟨D, 6, none⟩ (.int .i64 p.len)).drew D 23 #[.int .i64 o.k, .int .i64 o.st, .string o.key, .string p.val, .int .i64 o.num, .int .i64 p.at_, .int .i64 p.len] from (((D2.out.set 3 _).set 5 _).set 6 _).drew)
  have KC3 := Lib.hid (show Bk (((w2.setCell ⟨D, 3, none⟩ (.string p.val)).setCell ⟨D, 5, none⟩ (.int .i64 p.at_)).setCell ⟨D, 6, none⟩ (.int .i64 p.len)).drew (w.heap.size + 1 + 1) 23 #[.int .i64 o.k, .int .i64 o.st, .string o.key, .string o.val, .int .i64 o.num, .int .i64 o.at_, .int .i64 o.len] from (((KC2.out.far (p := ⟨D, 3, none⟩) (by have := GC.out; show w.heap.size + 1 + 1 ≠ D; omega) _).far (p := ⟨D, 5, none⟩) (by have := GC.out; show w.heap.size + 1 + 1 ≠ D; omega) _).far (p := ⟨D, 6, none⟩) (by have := GC.out; show w.heap.size + 1 + 1 ≠ D; omega) _).drew)
  have B3 := Lib.hid (show Below w.heap.size w (((w2.setCell ⟨D, 3, none⟩ (.string p.val)).setCell ⟨D, 5, none⟩ (.int .i64 p.at_)).setCell ⟨D, 6, none⟩ (.int .i64 p.len)).drew from (((B2.out.setCell (p := ⟨D, 3, none⟩) (by have := GC.out; show w.heap.size ≤ D; omega) _).setCell (p := ⟨D, 5, none⟩) (by have := GC.out; show w.heap.size ≤ D; omega) _).setCell (p := ⟨D, 6, none⟩) (by have := GC.out; show w.heap.size ≤ D; omega) _).drew)
  clear D2 KC2 KB2 B2
  generalize (((w2.setCell ⟨D, 3, none⟩ (.string p.val)).setCell ⟨D, 5, none⟩ (.int .i64 p.at_)).setCell ⟨D, 6, none⟩ (.int .i64 p.len)).drew = w3 at *
  have c0 : w3.cell? ⟨w.heap.size + 1 + 1, 0, none⟩ = some (.int .i64 o.k) := KC3.out.cell 0; have c1 : w3.cell? ⟨w.heap.size + 1 + 1, 1, none⟩ = some (.int .i64 o.st) := KC3.out.cell 1; have c2 : w3.cell? ⟨w.heap.size + 1 + 1, 2, none⟩ = some (.string o.key) := KC3.out.cell 2; have c3 : w3.cell? ⟨w.heap.size + 1 + 1, 3, none⟩ = some (.string o.val) := KC3.out.cell 3; have c4 : w3.cell? ⟨w.heap.size + 1 + 1, 4, none⟩ = some (.int .i64 o.num) := KC3.out.cell 4; have c5 : w3.cell? ⟨w.heap.size + 1 + 1, 5, none⟩ = some (.int .i64 o.at_) := KC3.out.cell 5; have c6 : w3.cell? ⟨w.heap.size + 1 + 1, 6, none⟩ = some (.int .i64 o.len) := KC3.out.cell 6
  go_wp2_with fail
  refine (CP.out w3 (PK.out w3 B3.out)).mono ?_
  rintro e w4 ⟨v1, rfl, hN, hb⟩
  have N1 := Lib.hid hN; have B4 := Lib.hid (below_then B3.out hb B3.out.size); have KC4 := Lib.hid (KC3.out.kept hb); have D4 := Lib.hid (D3.out.kept hb)
  clear c0 c1 c2 c3 c4 c5 c6 hN hb KC3 D3 B3
  have c0 : w4.cell? ⟨w.heap.size + 1 + 1, 0, none⟩ = some (.int .i64 o.k) := KC4.out.cell 0; have c1 : w4.cell? ⟨w.heap.size + 1 + 1, 1, none⟩ = some (.int .i64 o.st) := KC4.out.cell 1; have c2 : w4.cell? ⟨w.heap.size + 1 + 1, 2, none⟩ = some (.string o.key) := KC4.out.cell 2; have c3 : w4.cell? ⟨w.heap.size + 1 + 1, 3, none⟩ = some (.string o.val) := KC4.out.cell 3; have c4 : w4.cell? ⟨w.heap.size + 1 + 1, 4, none⟩ = some (.int .i64 o.num) := KC4.out.cell 4; have c5 : w4.cell? ⟨w.heap.size + 1 + 1, 5, none⟩ = some (.int .i64 o.at_) := KC4.out.cell 5; have c6 : w4.cell? ⟨w.heap.size + 1 + 1, 6, none⟩ = some (.int .i64 o.len) := KC4.out.cell 6
  have d0 : w4.cell? ⟨D, 0, none⟩ = some (.int .i64 o.k) := D4.out.cell 0; have d1 : w4.cell? ⟨D, 1, none⟩ = some (.int .i64 o.st) := D4.out.cell 1; have d2 : w4.cell? ⟨D, 2, none⟩ = some (.string o.key) := D4.out.cell 2; have d3 : w4.cell? ⟨D, 3, none⟩ = some (.string p.val) := D4.out.cell 3; have d4 : w4.cell? ⟨D, 4, none⟩ = some (.int .i64 o.num) := D4.out.cell 4; have d5 : w4.cell? ⟨D, 5, none⟩ = some (.int .i64 p.at_) := D4.out.cell 5; have d6 : w4.cell? ⟨D, 6, none⟩ = some (.int .i64 p.len) := D4.out.cell 6
  go_wp2_with fail
  refine (CQ.out w4 (PQ.out w4 B4.out)).mono ?_
  rintro e w5 ⟨v2, rfl, hN, hb⟩
  have N2 := Lib.hid hN; have B5 := Lib.hid (below_then B4.out hb B4.out.size); have N1' := Lib.hid (nd_kept N1.out hb)
  clear c0 c1 c2 c3 c4 c5 c6 d0 d1 d2 d3 d4 d5 d6 hN hb KC4 D4 B4 N1
  obtain ⟨a1, k1, rfl⟩ := nd_slice N1'.out
  obtain ⟨a2, k2, rfl⟩ := nd_slice N2.out
  have nm : nl.length ≤ 9223372036854775807 := by
    rcases N2.out.2 with ⟨_, h0⟩ | ⟨g, cap, cur, hv, h1, h2, h3, h4, _⟩
    · omega
    · have : nl.length ≤ cap := h3
      unfold maxLen at h4
      omega
  go_wp2_with fail
  go_loopw [51] (fun i wr => ∃ j : Nat, j ≤ nl.length ∧ i = .int .i64 j ∧ Below w5.heap.size w5 wr) (fun i _ => nl.length - (intOf i).toNat)
  case atStart => exact ⟨0, Nat.zero_le _, rfl, Below.refl _ _⟩
  case round =>
    obtain ⟨j, hj, rfl, hb⟩ := hrel
    have B6 := Lib.hid hb
    clear hb
    by_cases hlt : j < nl.length
    · have HLT := Lib.hid hlt
      obtain ⟨g1, h1, e1, _, _, hc1⟩ := nd_at (nd_kept N1'.out B6.out) (by omega)
      obtain ⟨g2, h2, e2, _, _, hc2⟩ := nd_at (nd_kept N2.out B6.out) (by omega)
      obtain ⟨rfl, rfl⟩ : a1 = some ⟨g1, 0, none⟩ ∧ k1 = h1 := by simpa using e1
      obtain ⟨rfl, rfl⟩ : a2 = some ⟨g2, 0, none⟩ ∧ k2 = h2 := by simpa using e2
      obtain ⟨x0, x1, x2⟩ := hc1 j _ (List.getElem?_eq_getElem hlt)
      obtain ⟨y0, y1, y2⟩ := hc2 j _ (List.getElem?_eq_getElem hlt)
      generalize nl[j] = d at *
      have hq := fun w => need_neq d d w
      rw [ndB_self] at hq
      obtain ⟨dst, dit, dm⟩ := d
      dsimp only at x0 x1 x2 y0 y1 y2 hq
      have hj0 : (0 : Int) ≤ (j : Int) := by omega
      have hjl : (j : Int) < (nl.length : Int) := by omega
      clear e1 e2 hc1 hc2
      go_wp2_with fail
      go_quiet (fail)
      go_wp2_with fail
      go_roundw
      case rel => exact ⟨j + 1, by have := HLT.out; omega, by go_num, below_drewN B6.out _⟩
      case measure => have := HLT.out; simp [intOf]; omega
    · go_wp2
      go_ret
      exact ⟨rfl, below_then B5.out B6.out B5.out.size⟩
end Go.Proofs.YtokghbppdmlfkaaDoor
