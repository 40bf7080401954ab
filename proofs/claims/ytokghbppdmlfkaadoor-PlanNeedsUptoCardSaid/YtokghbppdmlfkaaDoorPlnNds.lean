/- The walk of PlanNeeds. -/
import Derived.Test.YtokghbppdmlfkaaDoorPlnRead
import Derived.Test.YtokghbppdmlfkaaDoorPlnRNone
import Derived.Test.YtokghbppdmlfkaaDoorKept
import Derived.RegionTactic
import Derived.ChangeAlike
import Derived.BigRegion
set_option linter.unusedVariables false
set_option linter.unusedSimpArgs false
namespace Go.Proofs.YtokghbppdmlfkaaDoor
open Go.RowKit

theorem nm_neq (d : Nd) (w : World) : (binOp .neq 38 (.agg #[.int .i64 d.st, .string d.it]) (.agg #[.int .i64 d.st, .string d.it])).run Tryd.prog w = .ok (.bool false) w := by
  rw [run_neq_struct, show 10000 = 9998 + 1 + 1 from rfl, name_eq 9998 d d w]
  simp
theorem nmL_get : ∀ (l : List Nd) (i : Nat) (d : Nd), l[i]? = some d → (nmL l)[i * 2]? = some (.int .i64 d.st) ∧ (nmL l)[i * 2 + 1]? = some (.string d.it)
  | e :: l, 0, d, h => by
    obtain rfl : e = d := by simpa using h
    exact ⟨rfl, rfl⟩
  | e :: l, i + 1, d, h => by
    have h2 := nmL_get l i d (by simpa using h)
    have a : (i + 1) * 2 = (i * 2) + 2 := by omega
    rw [a]
    exact ⟨h2.1, h2.2⟩
theorem nm_at {w : World} {B : Nat} {v : Value} {l : List Nd} (h : w.ownsRow B 38 2 v l.length (nmL l)) (hl : 0 < l.length) : ∃ g c, v = .slice (some ⟨g, 0, none⟩) l.length c ∧ ∀ i d, l[i]? = some d → w.cell? ⟨g, i * 2, none⟩ = some (.int .i64 d.st) ∧ w.cell? ⟨g, i * 2 + 1, none⟩ = some (.string d.it) := by
  rcases h.2 with ⟨_, h0⟩ | ⟨g, cap, cur, hv, r⟩
  · omega
  · refine ⟨g, cap, hv, fun i d hd => ?_⟩
    obtain ⟨a, b⟩ := nmL_get l i d hd
    have c1 := h.cells (g := g) (by rw [hv]; rfl) (i * 2) _ a
    have c2 := h.cells (g := g) (by rw [hv]; rfl) (i * 2 + 1) _ b
    rw [Addr.add_lit, Nat.zero_add] at c1 c2
    exact ⟨c1, c2⟩
theorem md_at {w : World} {B : Nat} {v : Value} {l : List Nd} (h : w.ownsRow B 3 1 v l.length (mdL l)) (hl : 0 < l.length) : ∃ g c, v = .slice (some ⟨g, 0, none⟩) l.length c ∧ ∀ i d, l[i]? = some d → w.cell? ⟨g, i, none⟩ = some (.int .i64 d.m) := by
  rcases h.2 with ⟨_, h0⟩ | ⟨g, cap, cur, hv, r⟩
  · omega
  · refine ⟨g, cap, hv, fun i d hd => ?_⟩
    have c1 := h.cells (g := g) (by rw [hv]; rfl) i (.int .i64 d.m) (by unfold mdL; rw [List.getElem?_map, hd]; rfl)
    rw [Addr.add_lit, Nat.zero_add] at c1
    exact c1
set_option maxRecDepth 100000 in
set_option maxHeartbeats 4000000 in
theorem needs_core (o : Opn) (nx : ByteArray) (kv : Value) (ks : List ByteArray) (err : Int) (w : World) (hT : Tab w) (hK : TxAt w w.heap.size kv ks) (hn : ks.length ≤ 1500000) (lo : -9223372036854775808 ≤ o.num) (hi : o.num ≤ 9223372036854775807) :
    Calls Tryd.prog 3 #[.agg (plcs o nx kv err)] w fun e w' => e = .returned (.bool true) ∧ Below w.heap.size w w' := by
  have CA := Lib.hid awake_any
  have HT := Lib.hid hT; have HK := Lib.hid hK; have HN := Lib.hid hn; have LO := Lib.hid lo; have HI := Lib.hid hi
  have CN1 := Lib.hid (fun w' (h : Pk w' o o kv ks) => needs_any o o nx kv ks err w' h)
  have CR1 := Lib.hid (fun w' (h : TxAt w' w'.heap.size kv ks) => rneeds_any o nx kv ks err w' h hn lo hi)
  obtain ⟨ka, kc, rfl, _, _⟩ := hK
  clear hT hn lo hi
  have CP := Lib.hid (show ∀ w', Pk w' o o (.slice ka ks.length kc) ks → Calls Tryd.prog 7 #[.iface 32 (.agg #[.int .i64 o.k, .int .i64 o.st, .string o.key, .string o.val, .int .i64 o.num, .int .i64 o.at_, .int .i64 o.len, .string nx, .slice ka ks.length kc, .int .i64 err]), .agg #[.int .i64 o.k, .int .i64 o.st, .string o.key, .string o.val, .int .i64 o.num, .int .i64 o.at_, .int .i64 o.len]] w' (NeedsPost (needsL o nx ks err) w') from CN1.out)
  have CR := Lib.hid (show ∀ w', TxAt w' w'.heap.size (.slice ka ks.length kc) ks → Calls Tryd.prog 8 #[.agg #[.int .i64 o.k, .int .i64 o.st, .string o.key, .string o.val, .int .i64 o.num, .int .i64 o.at_, .int .i64 o.len], .string nx, .slice ka ks.length kc, .bool (err != 0)] w' (RefPost (needsL o nx ks err) w') from CR1.out)
  have PT := Lib.hid (fun (w' : World) (hb : Below w.heap.size w w') => show TxAt w' w'.heap.size (.slice ka ks.length kc) ks from (HK.out.below hb (Nat.le_refl _)).mono hb.size)
  have PK := Lib.hid (fun (w' : World) (hb : Below w.heap.size w w') => show Pk w' o o (.slice ka ks.length kc) ks from ⟨HT.out.below hb, PT.out w' hb, HN.out, rfl, rfl, rfl, LO.out, HI.out⟩)
  have B0 := Lib.hid (show Below w.heap.size w ((w.alloc (.cells #[.int .i64 o.k, .int .i64 o.st, .string o.key, .string o.val, .int .i64 o.num, .int .i64 o.at_, .int .i64 o.len, .string nx, .slice ka ks.length kc, .int .i64 err] 26)).alloc (.cells #[.int .i64 o.k, .int .i64 o.st, .string o.key, .string o.val, .int .i64 o.num, .int .i64 o.at_, .int .i64 o.len] 23)).drew from (((Below.refl w.heap.size w).alloc (Nat.le_refl _) _).alloc (by simp) _).drew)
  have KC := Lib.hid (show Bk ((w.alloc (.cells #[.int .i64 o.k, .int .i64 o.st, .string o.key, .string o.val, .int .i64 o.num, .int .i64 o.at_, .int .i64 o.len, .string nx, .slice ka ks.length kc, .int .i64 err] 26)).alloc (.cells #[.int .i64 o.k, .int .i64 o.st, .string o.key, .string o.val, .int .i64 o.num, .int .i64 o.at_, .int .i64 o.len] 23)).drew (w.heap.size + 1) 23 #[.int .i64 o.k, .int .i64 o.st, .string o.key, .string o.val, .int .i64 o.num, .int .i64 o.at_, .int .i64 o.len] from (Bk.new2 w _ _ _).drew)
  clear CN1 CR1
  unfold plcs
  unfold NeedsPost at CP
  unfold RefPost at CR
  generalize needsL o nx ks err = nl at *
  go_enter Tryd.func3, Tryd.ntmps3
  go_wp2_with fail
  go_region
  generalize ((w.alloc (.cells #[.int .i64 o.k, .int .i64 o.st, .string o.key, .string o.val, .int .i64 o.num, .int .i64 o.at_, .int .i64 o.len, .string nx, .slice ka ks.length kc, .int .i64 err] 26)).alloc (.cells #[.int .i64 o.k, .int .i64 o.st, .string o.key, .string o.val, .int .i64 o.num, .int .i64 o.at_, .int .i64 o.len] 23)).drew = w0 at *
  go_wp2_with fail
  refine (CA.out _ (HT.out.below B0.out)).mono ?_
  rintro e w1 ⟨rfl, hb⟩
  have B1 := Lib.hid (below_then B0.out hb B0.out.size); have KC1 := Lib.hid (KC.out.kept hb)
  have c0 : w1.cell? ⟨w.heap.size + 1, 0, none⟩ = some (.int .i64 o.k) := KC1.out.cell 0; have c1 : w1.cell? ⟨w.heap.size + 1, 1, none⟩ = some (.int .i64 o.st) := KC1.out.cell 1; have c2 : w1.cell? ⟨w.heap.size + 1, 2, none⟩ = some (.string o.key) := KC1.out.cell 2; have c3 : w1.cell? ⟨w.heap.size + 1, 3, none⟩ = some (.string o.val) := KC1.out.cell 3; have c4 : w1.cell? ⟨w.heap.size + 1, 4, none⟩ = some (.int .i64 o.num) := KC1.out.cell 4; have c5 : w1.cell? ⟨w.heap.size + 1, 5, none⟩ = some (.int .i64 o.at_) := KC1.out.cell 5; have c6 : w1.cell? ⟨w.heap.size + 1, 6, none⟩ = some (.int .i64 o.len) := KC1.out.cell 6
  clear hb B0 KC CA
  go_wp2_with fail
  refine (CP.out w1 (PK.out w1 B1.out)).mono ?_
  rintro e w4 ⟨v1, rfl, hN, hb⟩
  have N1 := Lib.hid hN; have B4 := Lib.hid (below_then B1.out hb B1.out.size); have KC4 := Lib.hid (KC1.out.kept hb)
  clear c0 c1 c2 c3 c4 c5 c6 hN hb KC1 B1
  have c0 : w4.cell? ⟨w.heap.size + 1, 0, none⟩ = some (.int .i64 o.k) := KC4.out.cell 0; have c1 : w4.cell? ⟨w.heap.size + 1, 1, none⟩ = some (.int .i64 o.st) := KC4.out.cell 1; have c2 : w4.cell? ⟨w.heap.size + 1, 2, none⟩ = some (.string o.key) := KC4.out.cell 2; have c3 : w4.cell? ⟨w.heap.size + 1, 3, none⟩ = some (.string o.val) := KC4.out.cell 3; have c4 : w4.cell? ⟨w.heap.size + 1, 4, none⟩ = some (.int .i64 o.num) := KC4.out.cell 4; have c5 : w4.cell? ⟨w.heap.size + 1, 5, none⟩ = some (.int .i64 o.at_) := KC4.out.cell 5; have c6 : w4.cell? ⟨w.heap.size + 1, 6, none⟩ = some (.int .i64 o.len) := KC4.out.cell 6
  go_wp2_with fail
  refine (CR.out w4 (PT.out w4 B4.out)).mono ?_
  rintro e w5 ⟨v2, v3, rfl, hN, hM, hb⟩
  have N2 := Lib.hid hN; have M2 := Lib.hid hM; have B5 := Lib.hid (below_then B4.out hb B4.out.size); have N1' := Lib.hid (nd_kept N1.out hb)
  clear c0 c1 c2 c3 c4 c5 c6 hN hM hb KC4 B4 N1
  obtain ⟨a1, k1, rfl⟩ := nd_slice N1'.out
  obtain ⟨a2, k2, rfl⟩ := tx_slice N2.out
  obtain ⟨a3, k3, rfl⟩ := tx_slice M2.out
  have nm : nl.length ≤ 9223372036854775807 := by
    rcases N2.out.2 with ⟨_, h0⟩ | ⟨g, cap, cur, hv, h1, h2, h3, h4, _⟩
    · omega
    · have : nl.length ≤ cap := h3
      unfold maxLen at h4
      omega
  go_wp2_with fail
  go_loopw [45] (fun i wr => ∃ j : Nat, j ≤ nl.length ∧ i = .int .i64 j ∧ Below w5.heap.size w5 wr) (fun i _ => nl.length - (intOf i).toNat)
  case atStart => exact ⟨0, Nat.zero_le _, rfl, Below.refl _ _⟩
  case round =>
    obtain ⟨j, hj, rfl, hb⟩ := hrel
    have B6 := Lib.hid hb
    clear hb
    by_cases hlt : j < nl.length
    · have HLT := Lib.hid hlt
      obtain ⟨g1, h1, e1, _, _, hc1⟩ := nd_at (nd_kept N1'.out B6.out) (by omega)
      obtain ⟨g2, h2, e2, hc2⟩ := nm_at (own_kept N2.out B6.out) (by omega)
      obtain ⟨g3, h3, e3, hc3⟩ := md_at (own_kept M2.out B6.out) (by omega)
      obtain ⟨rfl, rfl⟩ : a1 = some ⟨g1, 0, none⟩ ∧ k1 = h1 := by simpa using e1
      obtain ⟨rfl, rfl⟩ : a2 = some ⟨g2, 0, none⟩ ∧ k2 = h2 := by simpa using e2
      obtain ⟨rfl, rfl⟩ : a3 = some ⟨g3, 0, none⟩ ∧ k3 = h3 := by simpa using e3
      obtain ⟨x0, x1, x2⟩ := hc1 j _ (List.getElem?_eq_getElem hlt)
      obtain ⟨y0, y1⟩ := hc2 j _ (List.getElem?_eq_getElem hlt)
      have z0 := hc3 j _ (List.getElem?_eq_getElem hlt)
      generalize nl[j] = d at *
      have hq := fun w => nm_neq d w
      obtain ⟨dst, dit, dm⟩ := d
      dsimp only at x0 x1 x2 y0 y1 z0 hq
      have hj0 : (0 : Int) ≤ (j : Int) := by omega
      have hjl : (j : Int) < (nl.length : Int) := by omega
      have hmm : (dm != dm) = false := by simp
      clear e1 e2 e3 hc1 hc2 hc3
      go_wp2_with fail
      go_quiet (fail)
      go_wp2_with fail
      go_roundw
      case rel => exact ⟨j + 1, by have := HLT.out; omega, by go_num, below_drewN B6.out _⟩
      case measure => have := HLT.out; simp [intOf]; omega
    · go_wp2
      go_ret
      exact ⟨rfl, below_then B5.out B6.out B5.out.size⟩
theorem tab_PlanNeeds (W : World) (h : W.cell? ⟨0, 0, none⟩ = some (.int .i64 0) ∧ W.cell? ⟨0, 1, none⟩ = some (.int .i64 1) ∧ W.cell? ⟨0, 2, none⟩ = some (.int .i64 3) ∧ W.cell? ⟨0, 3, none⟩ = some (.int .i64 5) ∧ W.cell? ⟨0, 4, none⟩ = some (.int .i64 7) ∧ W.cell? ⟨0, 5, none⟩ = some (.int .i64 13) ∧ W.cell? ⟨0, 6, none⟩ = some (.int .i64 31)) : Tab W := by
  obtain ⟨h0, h1, h2, h3, h4, h5, h6⟩ := h
  refine ⟨World.block_lt_of_cell? W _ h0, fun i hi => ?_⟩
  rcases (show i = 0 ∨ i = 1 ∨ i = 2 ∨ i = 3 ∨ i = 4 ∨ i = 5 ∨ i = 6 by omega) with rfl | rfl | rfl | rfl | rfl | rfl | rfl <;> assumption
theorem PlanNeeds_bound {H : Type} {d0 : DataW H} (hk : Rows.uptoSmall H [d0] = true) : Rows.uptoBulk d0 ≤ 1048576 := by
  have h := of_decide_eq_true hk
  simp only [Rows.uptoBulkAll] at h
  omega
theorem walk_PlanNeeds {H : Type} {d : DataW H} (v : Value) (q : Pln) (w : World) (hT : Tab w) (h : IsPln w v q ∧ q.ks.length ≤ Rows.uptoBulk d) (hb : Rows.uptoBulk d ≤ 1048576) :
    Calls Tryd.prog 3 #[v] w fun e w' => e = .returned (.bool true) ∧ Below w.heap.size w w' := by
  rw [h.1.val]
  exact needs_core q.o q.nx q.kv q.ks q.err w hT h.1.keys (by have := h.2; omega) h.1.num.1 h.1.num.2
end Go.Proofs.YtokghbppdmlfkaaDoor
