/- The walk of NodeKeeps. -/
import Derived.Test.YtedoechjjcbeeaaNodKeepPlain3
import Derived.Test.YtedoechjjcbeeaaNodKeepRead
import Derived.Test.YtedoechjjcbeeaaNodRSplit
import Derived.Test.YtedoechjjcbeeaaNodTake
import Derived.Test.YtedoechjjcbeeaaNodPg
import Derived.Deep.RegionHeld3
import Derived.Deep.DeepCutAuto
import Derived.BigQuiet
import Derived.Deep.QuietTactic
set_option linter.unusedVariables false
set_option linter.unusedSimpArgs false
namespace Go.Proofs.Ytedoechjjcbeeaa
open Go.RowKit Go.BigFrame

theorem kept_load (w : World) (g : Nat) (p : Pg) (key val : ByteArray) (i : Int) (h : Bk w g 59 (kcs p key val i)) : (loadVar 40 ⟨g, 0, none⟩).run Try.prog w = .ok (.agg p.cs) w := by
  have hl := run_loadCells_list (P := Try.prog) w ⟨g, 0, none⟩ p.cs.toList (fun j v hv => by
    have hj : j < 16 := by have := (List.getElem?_eq_some_iff.1 hv).1; simpa [Pg.cs] using this
    rw [Addr.add_lit, Nat.zero_add, h.cell]
    have : j = 0 ∨ j = 1 ∨ j = 2 ∨ j = 3 ∨ j = 4 ∨ j = 5 ∨ j = 6 ∨ j = 7 ∨ j = 8 ∨ j = 9 ∨ j = 10 ∨ j = 11 ∨ j = 12 ∨ j = 13 ∨ j = 14 ∨ j = 15 := by omega
    rcases this with rfl | rfl | rfl | rfl | rfl | rfl | rfl | rfl | rfl | rfl | rfl | rfl | rfl | rfl | rfl | rfl <;> exact hv)
  have hsz : (Try.prog.info? 40).map (·.size) = some 16 := by kernel_rfl
  cases hq : Try.prog.info? 40 with
  | none => simp [hq] at hsz
  | some i0 =>
    have hs : i0.size = 16 := by simpa [hq] using hsz
    have h16 : p.cs.toList.length = 16 := rfl
    rw [h16] at hl
    simp [loadVar, run_underlying Try.underlying40, sizeOf, typeInfo, hq, hs, hl]
theorem held_kept {ops : Array Oper} {S : World → Prop} {o : Oper} {a : Act} (y : Operand) (ho : o.op = .load 40 y) (hw : Region.wanted o (yielded ops a.tmps) = true) (g : Nat) (p : Pg) (key val : ByteArray) (i : Int)
    (hx : a.eval y = .pointer (some ⟨g, 0, none⟩)) (hS : ∀ w, S w → Bk w g 59 (kcs p key val i)) : YieldsIf Try.prog ops S o (.agg p.cs) a := by
  refine .inl ⟨hw, fun w h => ?_⟩
  unfold execOp
  simp only [ho, hx, Instr.loadAt, Instr.sureAddr, Sem.run_bind, Sem.run_pure, Result.andThen_ok, kept_load w g p key val i (hS w h)]
theorem held_field {ops : Array Oper} {S : World → Prop} {o : Oper} {a : Act} (y : Operand) (k off g : Nat) (ho : o.op = .fieldAddr 59 y k) (hw : Region.wanted o (yielded ops a.tmps) = true)
    (hr : ∀ w, (execOp a.eval o).run Try.prog w = .ok (.value (.pointer (some ⟨g, off, none⟩))) w) : YieldsIf Try.prog ops S o (.pointer (some ⟨g, off, none⟩)) a := .inl ⟨hw, fun w _ => hr w⟩
theorem held_cell1 {ops : Array Oper} {S : World → Prop} {o : Oper} {a : Act} (ty : TypeId) (y : Operand) (ho : o.op = .load ty y) (hw : Region.wanted o (yielded ops a.tmps) = true) (g off : Nat) (v : Value)
    (hx : a.eval y = .pointer (some ⟨g, off, none⟩)) (hb : ∀ w, w.cell? ⟨g, off, none⟩ = some v → (loadVar ty ⟨g, off, none⟩).run Try.prog w = .ok v w) (hS : ∀ w, S w → w.cell? ⟨g, off, none⟩ = some v) : YieldsIf Try.prog ops S o v a := by
  refine .inl ⟨hw, fun w h => ?_⟩
  unfold execOp
  simp only [ho, hx, Instr.loadAt, Instr.sureAddr, Sem.run_bind, Sem.run_pure, Result.andThen_ok, hb w (hS w h)]
theorem load_str (g off : Nat) (v : Value) (w : World) (h : w.cell? ⟨g, off, none⟩ = some v) : (loadVar 9 ⟨g, off, none⟩).run Try.prog w = .ok v w := by
  simp [loadVar, run_underlying Try.underlying9, h]
theorem load_int (g off : Nat) (v : Value) (w : World) (h : w.cell? ⟨g, off, none⟩ = some v) : (loadVar 3 ⟨g, off, none⟩).run Try.prog w = .ok v w := by
  simp [loadVar, run_underlying Try.underlying3, h]
theorem store_ce {ops : Array Oper} {rest : List Oper} {o : Oper} {a : Act} {w : World} {Q : Exit → Act → World → Prop} (hgd : o.guard = none) (x y : Operand) (ho : o.op = .store 23 x y) (g : Nat) (c d : Ce)
    (hx : a.eval x = .pointer (some ⟨g, 0, none⟩)) (hy : a.eval y = .agg #[.int .i64 c.st, .string c.d]) (hb : Bk w g 23 #[.int .i64 d.st, .string d.d]) (h : wpList Try.prog ops Q rest (a.put o.dst undef) (w.setRow g #[.int .i64 c.st, .string c.d])) : wpList Try.prog ops Q (o :: rest) a w :=
  wpList_store_row hgd 23 x y ho g #[.int .i64 c.st, .string c.d] hx hy 23 #[.int .i64 d.st, .string d.d] hb (by kernel_rfl) rfl (by simp [Value.oneCell']) h
theorem row_ce {w : World} {g : Nat} {c d : Ce} (hb : Bk w g 23 #[.int .i64 d.st, .string d.d]) : Bk (w.setRow g #[.int .i64 c.st, .string c.d]) g 23 #[.int .i64 c.st, .string c.d] := setRow_heap _ _ _ _ _ _ hb
theorem kp_run {v : World} {o : Oper} {a : Act} {K : Act → Prop} (u : Value) (hr : ∀ x : Kp v, (execOp a.eval o).run Try.prog x.1 = .ok (.value u) x.1) (h : K (a.put o.dst u)) : o.quiet Try.prog a (fun w' => ∃ x : Kp v, w' = x.1) K :=
  ⟨u, fun w ⟨x, hx⟩ => by subst hx; unfold Oper.quietAt; rw [hr x]; exact ⟨rfl, rfl⟩, h⟩
theorem ce_load (w : World) (g off : Nat) (s : Int) (d : ByteArray) (h0 : w.cell? ⟨g, off, none⟩ = some (.int .i64 s)) (h1 : w.cell? ⟨g, off + 1, none⟩ = some (.string d)) : (loadVar 23 ⟨g, off, none⟩).run Try.prog w = .ok (.agg #[.int .i64 s, .string d]) w := by
  have hl := run_loadCells_list (P := Try.prog) w ⟨g, off, none⟩ [.int .i64 s, .string d] (fun j v hv => by
    have hj : j < 2 := by have := (List.getElem?_eq_some_iff.1 hv).1; simpa using this
    rw [Addr.add_lit]
    have : j = 0 ∨ j = 1 := by omega
    rcases this with rfl | rfl
    · rw [Nat.add_zero, h0]; exact hv
    · rw [h1]; exact hv)
  have hsz : (Try.prog.info? 23).map (·.size) = some 2 := by kernel_rfl
  cases hq : Try.prog.info? 23 with
  | none => simp [hq] at hsz
  | some i0 =>
    have hs : i0.size = 2 := by simpa [hq] using hsz
    have h16 : ([.int .i64 s, .string d] : List Value).length = 2 := rfl
    rw [h16] at hl
    simp [loadVar, run_underlying Try.underlying23, sizeOf, typeInfo, hq, hs, hl]
theorem q_cell {v : World} {o : Oper} {a : Act} {K : Act → Prop} (y : Operand) (ho : o.op = .load 23 y) (g off : Nat) (s : Int) (d : ByteArray) (hx : a.eval y = .pointer (some ⟨g, off, none⟩))
    (h0 : v.cell? ⟨g, off, none⟩ = some (.int .i64 s)) (h1 : v.cell? ⟨g, off + 1, none⟩ = some (.string d)) (h : K (a.put o.dst (.agg #[.int .i64 s, .string d]))) : o.quiet Try.prog a (fun w' => ∃ x : Kp v, w' = x.1) K := by
  refine kp_run _ (fun x => ?_) h
  unfold execOp
  simp only [ho, hx, Instr.loadAt, Instr.sureAddr, Sem.run_bind, Sem.run_pure, Result.andThen_ok, ce_load x.1 g off s d (x.cell h0) (x.cell h1)]
theorem q_neq {v : World} {o : Oper} {a : Act} {K : Act → Prop} (x y : Operand) (ty : TypeId) (ho : o.op = .binOp .neq 23 x y ty) (s t : Ce) (hx : a.eval x = .agg #[.int .i64 s.st, .string s.d]) (hy : a.eval y = .agg #[.int .i64 t.st, .string t.d])
    (h : K (a.put o.dst (.bool (!(ceB s t))))) : o.quiet Try.prog a (fun w' => ∃ x : Kp v, w' = x.1) K := by
  refine kp_run _ (fun u => ?_) h
  unfold execOp
  have hg : (eqGuard .neq 23 x y (.agg #[.int .i64 s.st, .string s.d]) (.agg #[.int .i64 t.st, .string t.d])).run Try.prog u.1 = .ok () u.1 := by kernel_rfl
  simp only [ho, hx, hy, Sem.run_bind, hg, cell_neq s t u.1, Result.andThen_ok, Sem.run_pure]
theorem split_facts (p : Pg) (h : nodeOk p) (hs : Sz p.c) (n : Nat) (hn : cnt p.c = n) : (splitE p = 1 ∧ n < 2) ∨ (splitE p = 0 ∧ ∃ f m : Nat, f + m = n ∧ 1 ≤ f ∧ 1 ≤ m ∧ m ≤ f ∧ f ≤ 3 ∧ Sz (splitLo p).c ∧ Sz (splitHi p).c ∧ nodeE (splitLo p) = 0 ∧ nodeE (splitHi p) = 0 ∧ cnt (splitLo p).c = f ∧ cnt (splitHi p).c = m ∧
    ∀ k, k < n → slt (p.c k).key (splitK p) = decide (k < f) ∧ (k < f → (splitLo p).c k = p.c k) ∧ (¬ k < f → ((splitHi p).c (k - f)).rst = (p.c k).rst ∧ ((splitHi p).c (k - f)).st = (p.c k).st)) := by
  subst hn
  by_cases h2 : cnt p.c < 2
  · exact .inl ⟨if_pos h2, h2⟩
  · have h3 : 2 ≤ cnt p.c := by omega
    obtain ⟨f1, f2, f3, f4⟩ := half_facts p h3
    obtain ⟨⟨a1, a2⟩, a3, a4⟩ := split_node p h h3
    have e1 : splitLo p = lowP p := if_neg h2
    have e2 : splitHi p = highP p := if_neg h2
    have e3 : splitK p = sepOf p := if_neg h2
    rw [e1, e2, e3]
    exact .inr ⟨if_neg h2, halfOf p, cnt p.c - halfOf p, by omega, f1, by omega, f3, f4, sz_low p hs, sz_high p hs h3, a1, a3, a2, a4, fun k hk => split_cells p h h3 k hk⟩
theorem q_int {v : World} {o : Oper} {a : Act} {K : Act → Prop} (y : Operand) (ho : o.op = .load 3 y) (g off : Nat) (s : Int) (hx : a.eval y = .pointer (some ⟨g, off, none⟩))
    (h0 : v.cell? ⟨g, off, none⟩ = some (.int .i64 s)) (h : K (a.put o.dst (.int .i64 s))) : o.quiet Try.prog a (fun w' => ∃ x : Kp v, w' = x.1) K := by
  refine kp_run _ (fun x => ?_) h
  unfold execOp
  simp only [ho, hx, Instr.loadAt, Instr.sureAddr, Sem.run_bind, Sem.run_pure, Result.andThen_ok, load_int g off _ x.1 (x.cell h0)]
set_option maxRecDepth 100000 in
set_option maxHeartbeats 4000000 in
theorem keeps_core (p : Pg) (key val : ByteArray) (i : Int) (w : World) (hs : Sz p.c) (hk : key.size ≤ maxLen) (hv : val.size ≤ maxLen) (hi1 : -9223372036854775808 ≤ i) (hi2 : i ≤ 9223372036854775807) :
    Calls Try.prog 6 #[.agg (kcs p key val i)] w fun e w' => e = .returned (.bool true) ∧ Below w.heap.size w w' := by
  have CA := Lib.hid awake_any
  have CK := Lib.hid (fun w => check_any p w hs)
  have CN := Lib.hid (fun w => count_any p w)
  go_enter Try.func6, Try.ntmps6
  go_upto_region 1 with fail
  have K0 := Lib.hid (show Bk (w.alloc (.cells (kcs p key val i) 59)) w.heap.size 59 (kcs p key val i) from Bk.new _ _ _)
  have B0 := Lib.hid ((Below.refl w.heap.size w).alloc (Nat.le_refl _) (.cells (kcs p key val i) 59))
  generalize hw0 : w.alloc (.cells (kcs p key val i) 59) = w0 at K0 B0 ⊢
  clear hw0
  generalize hkk : kcs p key val i = KK
  have HKK := Lib.hid hkk; clear hkk
  have D0 := Lib.hid K0.out.drew
  refine wp_region_held (S := fun w' => Bk w' w.heap.size 59 (kcs p key val i)) (by kernel_rfl) ?_
  refine held_take (fuel := 12) (i := 0) 28 rfl rfl (by kernel_rfl) (by kernel_rfl) (by kernel_rfl) (fun _ _ _ h => h) (held_field (.tmp 1) 0 0 w.heap.size rfl (by kernel_rfl) (fun _ => by kernel_rfl)) D0.out ?_
  simp only [Act.put, Act.eval, List.setIfInBounds_toArray, List.set_cons_succ, List.set_cons_zero]
  refine held_take (fuel := 11) (i := 1) 29 rfl rfl (by kernel_rfl) (by kernel_rfl) (by kernel_rfl) (fun _ _ _ h => h) (held_kept _ rfl (by kernel_rfl) w.heap.size p key val i rfl (fun w h => h)) D0.out ?_
  simp only [Act.put, Act.eval, List.setIfInBounds_toArray, List.set_cons_succ, List.set_cons_zero]
  refine held_take (fuel := 10) (i := 2) 30 rfl rfl (by kernel_rfl) (by kernel_rfl) (by kernel_rfl) (fun _ _ _ h => h) (held_field (.tmp 1) 1 16 w.heap.size rfl (by kernel_rfl) (fun _ => by kernel_rfl)) D0.out ?_
  simp only [Act.put, Act.eval, List.setIfInBounds_toArray, List.set_cons_succ, List.set_cons_zero]
  refine held_take (fuel := 9) (i := 3) 31 rfl rfl (by kernel_rfl) (by kernel_rfl) (by kernel_rfl) (fun _ _ _ h => h) (held_cell1 _ _ rfl (by kernel_rfl) w.heap.size 16 (.string key) rfl (load_str _ _ _) (fun w h => h.cell 16)) D0.out ?_
  simp only [Act.put, Act.eval, List.setIfInBounds_toArray, List.set_cons_succ, List.set_cons_zero]
  refine held_take (fuel := 8) (i := 4) 32 rfl rfl (by kernel_rfl) (by kernel_rfl) (by kernel_rfl) (fun _ _ _ h => h) (held_field (.tmp 1) 2 17 w.heap.size rfl (by kernel_rfl) (fun _ => by kernel_rfl)) D0.out ?_
  simp only [Act.put, Act.eval, List.setIfInBounds_toArray, List.set_cons_succ, List.set_cons_zero]
  refine held_take (fuel := 7) (i := 5) 33 rfl rfl (by kernel_rfl) (by kernel_rfl) (by kernel_rfl) (fun _ _ _ h => h) (held_cell1 _ _ rfl (by kernel_rfl) w.heap.size 17 (.string val) rfl (load_str _ _ _) (fun w h => h.cell 17)) D0.out ?_
  simp only [Act.put, Act.eval, List.setIfInBounds_toArray, List.set_cons_succ, List.set_cons_zero]
  refine held_take (fuel := 6) (i := 6) 34 rfl rfl (by kernel_rfl) (by kernel_rfl) (by kernel_rfl) (fun _ _ _ h => h) (held_field (.tmp 1) 3 18 w.heap.size rfl (by kernel_rfl) (fun _ => by kernel_rfl)) D0.out ?_
  simp only [Act.put, Act.eval, List.setIfInBounds_toArray, List.set_cons_succ, List.set_cons_zero]
  refine held_take (fuel := 5) (i := 7) 35 rfl rfl (by kernel_rfl) (by kernel_rfl) (by kernel_rfl) (fun _ _ _ h => h) (held_cell1 _ _ rfl (by kernel_rfl) w.heap.size 18 (.int .i64 i) rfl (load_int _ _ _) (fun w h => h.cell 18)) D0.out ?_
  simp only [Act.put, Act.eval, List.setIfInBounds_toArray, List.set_cons_succ, List.set_cons_zero]
  refine held_ready (fuel := 4) 8 (by kernel_rfl) ?_
  refine held_run rfl (by kernel_rfl) 3 rfl (.pointer (some ⟨w0.heap.size, 0, none⟩)) (w0.drew.alloc (.cells Pg.zero.cs 40)) (by kernel_rfl) ⟨D0.out.alloc _, ?_⟩
  simp only [Act.put, Act.eval, List.setIfInBounds_toArray, List.set_cons_succ, List.set_cons_zero]
  refine held_ready (fuel := 3) 9 (by kernel_rfl) ?_
  refine held_store rfl (.tmp 3) (.tmp 29) rfl rfl (by kernel_rfl) w0.heap.size p Pg.zero rfl rfl (Bk.new w0.drew _ _) ⟨row_far (D0.out.alloc _) (by have := K0.out.lt; omega), ?_⟩
  have Y0 := Lib.hid (show Bk ((w0.drew.alloc (.cells Pg.zero.cs 40)).setRow w0.heap.size p.cs) w0.heap.size 40 p.cs from row_bk (q := Pg.zero) (Bk.new w0.drew _ _))
  have X0 := Lib.hid (show Bk ((w0.drew.alloc (.cells Pg.zero.cs 40)).setRow w0.heap.size p.cs) w.heap.size 59 (kcs p key val i) from row_far (D0.out.alloc _) (by have := K0.out.lt; omega))
  have B1 := Lib.hid (show Below w.heap.size w ((w0.drew.alloc (.cells Pg.zero.cs 40)).setRow w0.heap.size p.cs) from below_setRow (B0.out.drew.alloc B0.out.size _) B0.out.size _)
  generalize ((w0.drew.alloc (.cells Pg.zero.cs 40)).setRow w0.heap.size p.cs) = w1 at X0 Y0 B1 ⊢
  have HG : Hid (w.heap.size < w0.heap.size) := Lib.hid K0.out.lt
  generalize w0.heap.size = G at *
  clear D0 B0 K0 w0
  refine held_take (fuel := 2) (i := 10) 4 rfl rfl (by kernel_rfl) (by kernel_rfl) (by kernel_rfl) (fun _ _ _ h => h) (held_assign _ rfl (by kernel_rfl)) X0.out ?_
  refine held_take (fuel := 1) (i := 11) 5 rfl rfl (by kernel_rfl) (by kernel_rfl) (by kernel_rfl) (fun _ _ _ h => h) (held_assign _ rfl (by kernel_rfl)) X0.out ?_
  refine held_take (fuel := 0) (i := 12) 6 rfl rfl (by kernel_rfl) (by kernel_rfl) (by kernel_rfl) (fun _ _ _ h => h) (held_assign _ rfl (by kernel_rfl)) X0.out ?_
  simp only [Act.put, Act.eval, List.setIfInBounds_toArray, List.set_cons_succ, List.set_cons_zero]
  refine wpAnyH_done (by kernel_rfl) ?_ _
  clear X0
  try simp only [Act.put, Act.eval, List.setIfInBounds_toArray, List.set_cons_succ, List.set_cons_zero]
  clear HKK
  try clear KK
  go_wp2_with fail
  refine (CA.out _).mono ?_
  rintro e w2 ⟨rfl, hb⟩
  have Y2 := Lib.hid (Y0.out.kept hb)
  have B2 := Lib.hid (below_then B1.out hb B1.out.size)
  clear hb Y0 B1 CA
  go_wp2_with (refine load_page rfl (.tmp 3) rfl G p rfl Y2.out ?_)
  refine (CK.out _).mono ?_
  rintro e w3 ⟨rfl, hb⟩
  have Y3 := Lib.hid (Y2.out.kept hb)
  have B3 := Lib.hid (below_then B2.out hb B2.out.size)
  clear hb Y2 B2 CK
  by_cases hE : nodeOk p
  case neg =>
    have hE' : nodeE p = 40 := if_neg hE
    rw [hE']
    go_wp2_with fail
    go_ret
    exact ⟨rfl, B3.out⟩
  have hE' : nodeE p = 0 := if_pos hE
  rw [hE']
  clear hE'
  go_wp2_with (refine load_page rfl (.tmp 3) rfl G p rfl Y3.out ?_)
  refine (CN.out _).mono ?_
  rintro e w4 ⟨rfl, hb⟩
  have Y4 := Lib.hid (Y3.out.kept hb)
  have B4 := Lib.hid (below_then B3.out hb B3.out.size)
  clear hb Y3 B3
  have cl := fun w => leaf_any key val 2 w hk hv
  have ci := fun w => inner_any key 9 w hk
  have CL := Lib.hid cl; have CI := Lib.hid ci
  clear cl ci
  have PL := Lib.hid (putC_leaf p key val); have PI := Lib.hid (putC_inner p key)
  generalize leafC key val 2 = lc at *
  generalize leafE key val 2 = le at *
  generalize innerC key 9 = ic at *
  generalize innerE key 9 = ie at *
  unfold Ce.v at CL CI
  have HE := Lib.hid hE; clear hE
  have hn6 := cnt_le p.c
  generalize hnn : cnt p.c = n at *
  have HN := Lib.hid hnn; clear hnn
  go_wp2_with fail
  refine (CL.out _).mono ?_
  rintro e w5 ⟨rfl, hb⟩
  have Y5 := Lib.hid ((Y4.out.kept hb).alloc (.cells #[.int .i64 lc.st, .string lc.d] 23))
  have Z5 := Lib.hid (show Bk (w5.alloc (.cells #[.int .i64 lc.st, .string lc.d] 23)) w5.heap.size 23 #[.int .i64 lc.st, .string lc.d] from Bk.new _ _ _)
  have b5 := below_then B4.out hb B4.out.size
  have B5 := Lib.hid (b5.alloc b5.size (.cells #[.int .i64 lc.st, .string lc.d] 23))
  have GC : Hid (w.heap.size ≤ w5.heap.size) := Lib.hid b5.size
  have GG : Hid (G < w5.heap.size) := Lib.hid (Y4.out.kept hb).lt
  clear hb b5 Y4 B4 CL
  obtain ⟨-, yl, -, -⟩ := pg_head Y5.out
  go_upto_if 51 with fail
  generalize w5.heap.size = C at *
  go_cut [9] (fun s9 wx => ∃ (c : Ce) (e : Int), s9 = .int .i64 e ∧ PutC p key c e ∧ Bk wx G 40 p.cs ∧ Bk wx C 23 #[.int .i64 c.st, .string c.d] ∧ Below w.heap.size w wx)
  case first =>
    as_aux_lemma =>
      have hl0 : 0 ≤ p.l := HE.out.1.2.1
      by_cases hl : p.l = 0
      · have h0 : ¬ 0 < p.l := by omega
        go_wp2_with fail
        go_meet
        exact ⟨lc, le, rfl, PL.out hl, Y5.out, Z5.out, B5.out⟩
      · have h0 : 0 < p.l := by omega
        go_wp2_with fail
        refine (CI.out _).mono ?_
        rintro e w6 ⟨rfl, hb⟩
        have Y6 := Lib.hid (Y5.out.kept hb); have Z6 := Lib.hid (Z5.out.kept hb)
        have B6 := Lib.hid (below_then B5.out hb B5.out.size)
        clear hb yl
        go_wp2_with (refine store_ce rfl (.tmp 8) (.tmp 55) rfl C ic lc rfl rfl Z6.out ?_)
        go_meet
        exact ⟨ic, ie, rfl, PI.out hl, row_far Y6.out (by have := GG.out; omega), row_ce (d := lc) Z6.out, below_setRow B6.out GC.out _⟩
  case rest =>
  as_aux_lemma =>
  obtain ⟨c, ee, rfl, hC, y6, z6, b6⟩ := hcut
  have HC := Lib.hid hC; have Y6 := Lib.hid y6; have Z6 := Lib.hid z6; have B6 := Lib.hid b6
  clear hC y6 z6 b6 PL PI CI Y5 Z5 B5 yl
  have cp := fun w => nput_any p c w hs HC.out.sz
  have CP := Lib.hid cp; clear cp
  have SP := Lib.hid (put_sz p c hs HC.out.sz)
  have PP := Lib.hid (put_plain p key c ee HE.out HC.out)
  rw [HN.out] at PP
  generalize hQ : putP p c = Q at *
  generalize hF : putE p c = fe at *
  clear hQ hF
  unfold Ce.v at CP
  obtain ⟨z0, z1⟩ := (show wc.cell? ⟨C, 0, none⟩ = some (.int .i64 c.st) ∧ wc.cell? ⟨C, 1, none⟩ = some (.string c.d) from ⟨Z6.out.cell 0, Z6.out.cell 1⟩)
  have tokL : True := trivial
  go_wp2_with (have _t := tokL; refine load_page rfl (.tmp 3) rfl G p rfl Y6.out ?_; clear tokL _t)
  refine (CP.out _).mono ?_
  rintro e w7 ⟨rfl, hb⟩
  clear z0 z1
  have Y7 := Lib.hid ((Y6.out.kept hb).alloc (.cells Q.cs 40)); have Z7 := Lib.hid ((Z6.out.kept hb).alloc (.cells Q.cs 40))
  have Q7 := Lib.hid (show Bk (w7.alloc (.cells Q.cs 40)) w7.heap.size 40 Q.cs from Bk.new _ _ _)
  have b7 := below_then B6.out hb B6.out.size
  have B7 := Lib.hid (b7.alloc b7.size (.cells Q.cs 40))
  clear hb b7 Y6 Z6 B6
  go_upto_region 11 with (refine store_page_new rfl (.tmp 10) (.tmp 61) rfl Q rfl rfl ?_; generalize (w7.alloc (.cells Q.cs 40)) = w8 at Y7 Z7 B7 Q7 ⊢; generalize w7.heap.size = GQ at Y7 Z7 B7 Q7 ⊢)
  obtain ⟨-, yl, -, -⟩ := pg_head Y7.out
  have hke := ba_empty5 key
  go_cut [77] (fun s77 wx => ∃ b : Bool, s77 = .bool b ∧ (b = true → ee = 0 ∧ fe = 0 ∧ (p.l = 0 ∨ key.size ≠ 0)) ∧ wx = w8)
  case first =>
    as_aux_lemma =>
      by_cases he : ee = 0
      · subst he
        by_cases hf : fe = 0
        · subst hf
          by_cases hl : p.l = 0
          · go_wp2_with fail
            go_meet
            exact ⟨_, rfl, fun _ => ⟨rfl, rfl, .inl hl⟩, rfl⟩
          · by_cases hz : key.size = 0
            · rw [decide_eq_true hz] at hke
              go_wp2_with fail
              go_meet
              exact ⟨(p.l == 0), rfl, fun h => absurd h (by simp [hl]), rfl⟩
            · rw [decide_eq_false hz] at hke
              go_wp2_with fail
              go_meet
              exact ⟨_, rfl, fun _ => ⟨rfl, rfl, .inr hz⟩, rfl⟩
        · go_wp2_with fail
          go_meet
          exact ⟨false, rfl, fun h => absurd h (by decide), rfl⟩
      · go_wp2_with fail
        go_meet
        exact ⟨false, rfl, fun h => absurd h (by decide), rfl⟩
  case rest =>
  as_aux_lemma =>
  clear yl hke
  obtain ⟨b77, rfl, h77, rfl⟩ := hcut
  have H77 := Lib.hid h77; clear h77
  go_upto_if 77 with fail
  go_cut [12, 13] (fun s12 s13 wx => Bk wx G 40 p.cs ∧ Below w.heap.size w wx)
  case first =>
    as_aux_lemma =>
      cases b77 with
      | false =>
        go_wp2_with fail
        go_meet
        exact ⟨Y7.out, B7.out⟩
      | true =>
        obtain ⟨he, hf, hk2⟩ := H77.out rfl
        obtain ⟨p1, p2, p3, p4, p5, p6⟩ := PP.out he hf hk2
        clear PP CP H77 hk2 he hf
        have cq := fun w => check_any Q w SP.out
        rw [p1] at cq
        have cn := fun w => count_any Q w
        rw [p2] at cn
        have cf := fun w => find_any Q key w SP.out
        unfold IsFnd at cf
        have pc := fun wx (hh : Bk wx GQ 40 Q.cs) => pg_cell hh (fAt Q key) p4
        rw [p5] at pc
        rw [p3] at cf
        rw [show ((n + 1 : Nat) : Int) = (n : Int) + 1 from by omega] at cn
        have CQ := Lib.hid cq; have CNQ := Lib.hid cn; have CF := Lib.hid cf
        clear cq cn cf p1 p2 p3 p5
        generalize fAt Q key = j at *
        have PC := Lib.hid pc; have P4 := Lib.hid p4
        clear pc p4
        unfold Pg.v at CQ CNQ CF
        go_wp2_with (refine load_page rfl (.tmp 10) rfl GQ Q rfl Q7.out ?_)
        refine (CF.out _).mono ?_
        rintro e w9 ⟨j', b', rfl, ⟨rfl, rfl⟩, hb⟩
        have Y9 := Lib.hid (Y7.out.kept hb); have Z9 := Lib.hid (Z7.out.kept hb); have Q9 := Lib.hid (Q7.out.kept hb)
        have B9 := Lib.hid (below_then B7.out hb B7.out.size)
        clear hb CF
        have hw1 : IntKind.i64.wrap ((n : Int) + 1) = (n : Int) + 1 := by simp [IntKind.wrap, IntKind.signed, IntKind.bits]; omega
        have hj6 := P4.out
        have hj7 : (j' : Int) < 6 := by omega
        have hj8 : (0 : Int) ≤ (j' : Int) := by omega
        obtain ⟨c0, c1⟩ := PC.out _ Q9.out
        go_wp2_with fail
        refine wp_region_kept (by kernel_rfl) (by kernel_rfl) ?_
        repeat (first
          | go_big_quiet_skip
          | (go_big_quiet_want; refine q_page _ rfl GQ Q rfl Q9.out ?_; simp only [Act.put, List.setIfInBounds_toArray, List.set_cons_succ, List.set_cons_zero]; go_big_quiet_on)
          | (go_big_quiet_want; refine q_cell _ rfl GQ (4 + j' * 2) _ _ rfl c0 c1 ?_; simp only [Act.put, List.setIfInBounds_toArray, List.set_cons_succ, List.set_cons_zero]; go_big_quiet_on)
          | (go_big_quiet_want; refine q_cell _ rfl C 0 c.st c.d rfl (Z9.out.cell 0) (Z9.out.cell 1) ?_; simp only [Act.put, List.setIfInBounds_toArray, List.set_cons_succ, List.set_cons_zero]; go_big_quiet_on)
          | (go_big_quiet_want; refine q_neq _ _ _ rfl c c rfl rfl ?_; rw [ceB_self]; simp only [Act.put, List.setIfInBounds_toArray, List.set_cons_succ, List.set_cons_zero]; go_big_quiet_on)
          | (go_big_quiet_want; go_big_quiet_op; first | go_big_quiet_on | go_big_quiet_call (first | exact kp_call (CQ.out _) | exact kp_call (CNQ.out _))))
        refine wpQuiet_nil ?_
        rintro _ ⟨x, rfl⟩
        have Yx := Lib.hid (x.bk Y9.out)
        have Bx := Lib.hid (B9.out.trans (x.2.mono B9.out.size))
        go_wp2_with fail
        go_meet
        exact ⟨Yx.out, Bx.out⟩
  case rest =>
  as_aux_lemma =>
  obtain ⟨y10, b10⟩ := hcut
  have Y10 := Lib.hid y10; have B10 := Lib.hid b10
  clear y10 b10 PP H77 Y7 Z7 B7 Q7 SP CP
  have ct := fun w => take_any p i w
  have CT := Lib.hid ct; clear ct
  have ST := Lib.hid (take_sz p i hs)
  have TP := Lib.hid (take_plain p i HE.out)
  rw [HN.out] at TP
  generalize hQ : takeP p i = T at *
  generalize hF : takeE p i = te at *
  clear hQ hF
  unfold Pg.v at CT
  have tokL : True := trivial
  go_wp2_with (have _t := tokL; refine load_page rfl (.tmp 3) rfl G p rfl Y10.out ?_; clear tokL _t)
  refine (CT.out _).mono ?_
  rintro e v1 ⟨rfl, hb⟩
  have Y11 := Lib.hid ((Y10.out.kept hb).alloc (.cells T.cs 40))
  have T11 := Lib.hid (show Bk (v1.alloc (.cells T.cs 40)) v1.heap.size 40 T.cs from Bk.new _ _ _)
  have b11 := below_then B10.out hb B10.out.size
  have B11 := Lib.hid (b11.alloc b11.size (.cells T.cs 40))
  clear hb b11 Y10 B10 CT
  go_upto_region 16 with (refine store_page_new rfl (.tmp 14) (.tmp 110) rfl T rfl rfl ?_; generalize (v1.alloc (.cells T.cs 40)) = v2 at Y11 B11 T11 ⊢; generalize v1.heap.size = GT at Y11 B11 T11 ⊢)
  obtain ⟨-, yl, -, -⟩ := pg_head Y11.out
  go_cut [118] (fun s118 wx => ∃ b : Bool, s118 = .bool b ∧ (b = true → te = 0 ∧ p.l = 0) ∧ wx = v2)
  case first =>
    as_aux_lemma =>
      by_cases hf : te = 0
      · subst hf
        go_wp2_with fail
        go_meet
        exact ⟨_, rfl, fun h => ⟨rfl, by simpa using h⟩, rfl⟩
      · go_wp2_with fail
        go_meet
        exact ⟨false, rfl, fun h => absurd h (by decide), rfl⟩
  case rest =>
  as_aux_lemma =>
  clear yl
  obtain ⟨b118, rfl, h118, rfl⟩ := hcut
  have H118 := Lib.hid h118; clear h118
  go_upto_if 118 with fail
  go_cut [] (fun wx => Bk wx G 40 p.cs ∧ Below w.heap.size w wx)
  case first =>
    as_aux_lemma =>
      cases b118 with
      | false =>
        go_wp2_with fail
        go_meet
        exact ⟨Y11.out, B11.out⟩
      | true =>
        obtain ⟨hf, hl⟩ := H118.out rfl
        obtain ⟨p1, p2⟩ := TP.out hf hl
        have cq := fun w => check_any T w ST.out
        rw [p1] at cq
        have cn := fun w => count_any T w
        rw [p2] at cn
        have CQ := Lib.hid cq; have CNQ := Lib.hid cn
        clear cq cn p1 p2 TP H118 hf hl
        unfold Pg.v at CQ CNQ
        have hw1 : IntKind.i64.wrap ((n : Int) - 1) = (n : Int) - 1 := by simp [IntKind.wrap, IntKind.signed, IntKind.bits]; omega
        go_wp2_with (refine load_page rfl (.tmp 14) rfl GT T rfl T11.out ?_)
        refine (CQ.out _).mono ?_
        rintro e v3 ⟨rfl, hb⟩
        have Y12 := Lib.hid (Y11.out.kept hb); have T12 := Lib.hid (T11.out.kept hb)
        have B12 := Lib.hid (below_then B11.out hb B11.out.size)
        clear hb CQ
        go_wp2_with (refine load_page_if (.tmp 14) rfl (by first | rfl | kernel_rfl) GT T rfl T12.out ?_)
        refine (CNQ.out _).mono ?_
        rintro e v4 ⟨rfl, hb⟩
        have Y13 := Lib.hid (Y12.out.kept hb)
        have B13 := Lib.hid (below_then B12.out hb B12.out.size)
        clear hb CNQ
        go_wp2_with fail
        go_meet
        exact ⟨Y13.out, B13.out⟩
  case rest =>
  as_aux_lemma =>
  obtain ⟨y12, b12⟩ := hcut
  have Y12 := Lib.hid y12; have B12 := Lib.hid b12
  clear y12 b12 TP H118 Y11 B11 T11 ST
  have cs := fun w => split_any p w hs
  have CS := Lib.hid cs; clear cs
  have SF := Lib.hid (split_facts p HE.out hs n HN.out)
  generalize splitLo p = LL at *
  generalize splitHi p = HH at *
  generalize splitK p = sk at *
  generalize splitE p = se at *
  unfold Pg.v at CS
  have tokL : True := trivial
  go_wp2_with (have _t := tokL; refine load_page rfl (.tmp 3) rfl G p rfl Y12.out ?_; clear tokL _t)
  refine (CS.out _).mono ?_
  rintro e v5 ⟨rfl, hb⟩
  have bb := below_then B12.out hb B12.out.size
  have Za := Lib.hid (show Bk ((v5.alloc (.cells Pg.zero.cs 40)).alloc (.cells Pg.zero.cs 40)) v5.heap.size 40 Pg.zero.cs from (Bk.new _ _ _).alloc _)
  have Zb := Lib.hid (show Bk (((v5.alloc (.cells Pg.zero.cs 40)).alloc (.cells Pg.zero.cs 40)).setRow v5.heap.size LL.cs) (v5.heap.size + 1) 40 Pg.zero.cs from row_far (Bk.new2 _ _ _ _) (by omega))
  have tokA : True := trivial
  go_upto_if 137 with (first | (have _t := tokA; refine store_page rfl (.tmp 16) (.tmp 132) rfl v5.heap.size LL Pg.zero rfl rfl Za.out ?_; clear tokA _t; have tokB : True := trivial) | (have _t := tokB; refine store_page rfl (.tmp 17) (.tmp 133) rfl (v5.heap.size + 1) HH Pg.zero rfl rfl Zb.out ?_; clear tokB _t; generalize hW : World.setRow _ (v5.heap.size + 1) HH.cs = w6; have Y6 : Hid (Bk w6 G 40 p.cs) := Lib.hid (by rw [← hW]; exact row_far (row_far (((Y12.out.kept hb).alloc (.cells Pg.zero.cs 40)).alloc (.cells Pg.zero.cs 40)) (by have := (Y12.out.kept hb).lt; omega)) (by have := (Y12.out.kept hb).lt; omega)); have L6 : Hid (Bk w6 v5.heap.size 40 LL.cs) := Lib.hid (by rw [← hW]; exact row_far (row_bk (q := Pg.zero) Za.out) (by omega)); have H6 : Hid (Bk w6 (v5.heap.size + 1) 40 HH.cs) := Lib.hid (by rw [← hW]; exact row_bk (q := Pg.zero) Zb.out); have B6 : Hid (Below w.heap.size w w6) := Lib.hid (by rw [← hW]; exact below_setRow (below_setRow ((bb.alloc bb.size (.cells Pg.zero.cs 40)).alloc (by have := bb.size; simp; omega) (.cells Pg.zero.cs 40)) bb.size _) (by have := bb.size; omega) _); have GL6 : Hid (w.heap.size ≤ v5.heap.size) := Lib.hid bb.size; clear hW hb bb Za Zb CS Y12 B12; generalize v5.heap.size = GL at *))
  rcases SF.out with ⟨s1, s2⟩ | ⟨s1, f, m, hfm, f1, f2, f3, f4, zl, zh, e1, e2, e3, e4, hcell⟩
  · subst s1
    have s3 : (n : Int) < 2 := by omega
    go_wp2_with fail
    go_ret
    exact ⟨rfl, B6.out⟩
  · subst s1
    clear SF
    have cl := fun w => check_any LL w zl; have ch := fun w => check_any HH w zh
    have nl := fun w => count_any LL w; have nh := fun w => count_any HH w
    rw [e1] at cl; rw [e2] at ch; rw [e3] at nl; rw [e4] at nh
    have CL := Lib.hid cl; have CH := Lib.hid ch; have NL := Lib.hid nl; have NH := Lib.hid nh
    have ZL := Lib.hid zl; have ZH := Lib.hid zh; have HCELL := Lib.hid hcell; have HS := Lib.hid hs; have HFM := Lib.hid hfm
    clear cl ch nl nh e1 e2 e3 e4 zl zh hcell hs
    unfold Pg.v at CL CH NL NH
    have hsum : (f : Int) + (m : Int) = (n : Int) := by omega
    have hw1 : IntKind.i64.wrap ((f : Int) + (m : Int)) = (n : Int) := by simp [IntKind.wrap, IntKind.signed, IntKind.bits]; omega
    have hfm2 : ¬ f < m := by omega
    clear hfm
    go_wp2_with fail
    refine wp_region_kept (by kernel_rfl) (by kernel_rfl) ?_
    repeat (first
      | go_big_quiet_skip
      | (go_big_quiet_want; refine q_page _ rfl GL LL rfl L6.out ?_; (try clear tokY); (try clear tokX); have tokX : True := trivial; simp only [Act.put, List.setIfInBounds_toArray, List.set_cons_succ, List.set_cons_zero]; go_big_quiet_on)
      | (go_big_quiet_want; refine q_page _ rfl (GL + 1) HH rfl H6.out ?_; (try clear tokY); (try clear tokX); have tokY : True := trivial; simp only [Act.put, List.setIfInBounds_toArray, List.set_cons_succ, List.set_cons_zero]; go_big_quiet_on)
      | (go_big_quiet_want; go_big_quiet_op; first | go_big_quiet_on | go_big_quiet_call (first | (have _t := tokX; first | exact kp_call (CL.out _) | exact kp_call (NL.out _)) | (have _t := tokY; first | exact kp_call (CH.out _) | exact kp_call (NH.out _)))))
    refine wpQuiet_nil ?_
    rintro _ ⟨x, rfl⟩
    have Y7 := Lib.hid (x.bk Y6.out); have L7 := Lib.hid (x.bk L6.out); have H7 := Lib.hid (x.bk H6.out)
    have B7 := Lib.hid (B6.out.trans (x.2.mono B6.out.size))
    generalize x.1 = w7 at *
    clear Y6 L6 H6 B6 CL CH NH hsum hw1 hfm2
    go_wp2_with fail
    rw [show ((0 : Int) != 0) = false from rfl]
    go_loopw [20] (fun x wr => ∃ k : Nat, k ≤ n ∧ x = .int .i64 k ∧ Bk wr G 40 p.cs ∧ Bk wr GL 40 LL.cs ∧ Bk wr (GL + 1) 40 HH.cs ∧ Below w.heap.size w wr) (fun x _ => n - (intOf x).toNat)
    case atStart => exact ⟨0, by omega, rfl, Y7.out, L7.out, H7.out, B7.out⟩
    case round =>
      clear Y7 L7 H7 B7
      obtain ⟨k, hi, rfl, ky, kl, kh, kb⟩ := hrel
      have YR := Lib.hid ky; have LR := Lib.hid kl; have HR := Lib.hid kh; have BR := Lib.hid kb
      clear ky kl kh kb
      by_cases hlt : k < n
      · obtain ⟨q1, q2, q3⟩ := HCELL.out k hlt
        have hk6 : k < 6 := by omega
        have hk5 : (k : Int) ≤ 5 := by omega
        have ck := fun w => key_any (p.c k) w (HS.out k hk6)
        unfold Ce.v at ck
        unfold slt at q1
        obtain ⟨y0, y1⟩ := pg_cell YR.out k hk6
        have PC := Lib.hid (fun wx (hh : Bk wx G 40 p.cs) => (pg_cell hh k hk6).1)
        have CK := Lib.hid ck
        have Q2 := Lib.hid q2; have Q3 := Lib.hid q3
        have LK := Lib.hid (fun wx (hh : Bk wx GL 40 LL.cs) => pg_cell hh k hk6)
        have HK := Lib.hid (fun j (hj : j < 6) wx (hh : Bk wx (GL + 1) 40 HH.cs) => pg_cell hh j hj)
        have KH := Lib.hid (fun j (hj : j < 6) w => key_any (HH.c j) w (ZH.out j hj))
        unfold Ce.v at KH
        clear ck q2 q3
        go_wp2_with fail
        refine (CK.out _).mono ?_
        rintro e w8 ⟨rfl, hb⟩
        have Y8 := Lib.hid (YR.out.kept hb); have L8 := Lib.hid (LR.out.kept hb); have H8 := Lib.hid (HR.out.kept hb); have B8 := Lib.hid (below_then BR.out hb BR.out.size)
        clear hb y0 y1 YR LR HR BR
        by_cases hkf : k < f
        · as_aux_lemma =>
            rw [decide_eq_true hkf] at q1
            have q2 := Q2.out hkf
            have hki : (k : Int) < (f : Int) := by omega
            go_wp2_with (refine load_page rfl (.tmp 16) rfl GL LL rfl L8.out ?_)
            refine (NL.out _).mono ?_
            rintro e w9 ⟨rfl, hb⟩
            have Y9 := Lib.hid (Y8.out.kept hb); have L9 := Lib.hid (L8.out.kept hb); have H9 := Lib.hid (H8.out.kept hb); have B9 := Lib.hid (below_then B8.out hb B8.out.size)
            clear hb Y8 L8 H8 B8
            obtain ⟨l0, l1⟩ := LK.out _ L9.out
            rw [q2] at l0 l1
            go_wp2_with (refine load_page rfl (.tmp 16) rfl GL LL rfl (L9.out.alloc _) ?_)
            have Z10 := Lib.hid (show Bk (w9.alloc (.cells #[.int .i64 (p.c k).st, .string (p.c k).d] 23)) w9.heap.size 23 #[.int .i64 (p.c k).st, .string (p.c k).d] from Bk.new _ _ _)
            have Y10 := Lib.hid (Y9.out.alloc (.cells #[.int .i64 (p.c k).st, .string (p.c k).d] 23)); have L10 := Lib.hid (L9.out.alloc (.cells #[.int .i64 (p.c k).st, .string (p.c k).d] 23)); have H10 := Lib.hid (H9.out.alloc (.cells #[.int .i64 (p.c k).st, .string (p.c k).d] 23))
            have B10 := Lib.hid (B9.out.alloc B9.out.size (.cells #[.int .i64 (p.c k).st, .string (p.c k).d] 23))
            refine (NL.out _).mono ?_
            rintro e w11 ⟨rfl, hb⟩
            have Y11 := Lib.hid (Y10.out.kept hb); have L11 := Lib.hid (L10.out.kept hb); have H11 := Lib.hid (H10.out.kept hb); have B11 := Lib.hid (below_then B10.out hb B10.out.size)
            have Z11 := Lib.hid (Z10.out.kept hb)
            clear hb l0 l1 Y9 L9 H9 B9 Y10 L10 H10 B10 Z10
            generalize w9.heap.size = D at *
            obtain ⟨z0, z1⟩ := (show w11.cell? ⟨D, 0, none⟩ = some (.int .i64 (p.c k).st) ∧ w11.cell? ⟨D, 1, none⟩ = some (.string (p.c k).d) from ⟨Z11.out.cell 0, Z11.out.cell 1⟩)
            go_wp2_with fail
            refine (CK.out _).mono ?_
            rintro e w12 ⟨rfl, hb⟩
            have Y12 := Lib.hid (Y11.out.kept hb); have L12 := Lib.hid (L11.out.kept hb); have H12 := Lib.hid (H11.out.kept hb); have B12 := Lib.hid (below_then B11.out hb B11.out.size)
            have Z12 := Lib.hid (Z11.out.kept hb)
            clear hb z0 z1 Y11 L11 H11 B11 Z11
            have y2 := PC.out _ Y12.out
            have y3 : (k : Int) < 6 := by omega
            have z0 := Z12.out.cell 0
            simp only [List.getElem?_toArray, List.getElem?_cons_zero, List.getElem?_cons_succ] at z0
            have Y13 := Lib.hid (fun n => Y12.out.drewN n); have L13 := Lib.hid (fun n => L12.out.drewN n); have H13 := Lib.hid (fun n => H12.out.drewN n)
            have B13 := Lib.hid (fun n => below_drewN B12.out n)
            clear Y12 L12 H12 B12 Z12
            (try clear q1); (try clear q2); (try clear PC); (try clear Q2); (try clear Q3); (try clear LK); (try clear HK); (try clear KH)
            generalize (p.c k).rst = rs at *
            generalize (p.c k).st = sx at *
            go_wp2_with fail
            have hd : (rs.toList != rs.toList) = false := by simp
            go_big_quiet (fail)
            go_wp2_with fail
            go_roundw
            case rel => exact ⟨k + 1, by omega, by go_num, Y13.out nq, L13.out nq, H13.out nq, B13.out nq⟩
            case measure => simp [intOf]; omega
        · as_aux_lemma =>
            rw [decide_eq_false hkf] at q1
            obtain ⟨q4, q5⟩ := Q3.out hkf
            have hki : ¬ (k : Int) < (f : Int) := by omega
            obtain ⟨j, hkj⟩ : ∃ j, j = k - f := ⟨_, rfl⟩
            rw [← hkj] at q4 q5
            have hsub : (k : Int) - (f : Int) = (j : Int) := by omega
            have hwr : IntKind.i64.wrap ((k : Int) - (f : Int)) = (j : Int) := by rw [hsub]; simp [IntKind.wrap, IntKind.signed, IntKind.bits]; omega
            have hj6 : j < 6 := by omega
            have hj7 : (j : Int) < 6 := by omega
            clear hkj
            have kh := fun w => KH.out j hj6 w
            rw [q4] at kh
            have KJ := Lib.hid kh
            have HJ := Lib.hid (HK.out j hj6)
            have Q4 := Lib.hid q4; have Q5 := Lib.hid q5
            clear kh q4 q5
            go_wp2_with (refine load_page rfl (.tmp 16) rfl GL LL rfl L8.out ?_)
            refine (NL.out _).mono ?_
            rintro e w9 ⟨rfl, hb⟩
            have Y9 := Lib.hid (Y8.out.kept hb); have L9 := Lib.hid (L8.out.kept hb); have H9 := Lib.hid (H8.out.kept hb); have B9 := Lib.hid (below_then B8.out hb B8.out.size)
            clear hb Y8 L8 H8 B8
            obtain ⟨l0, l1⟩ := LK.out _ L9.out
            go_wp2_with (refine load_page rfl (.tmp 16) rfl GL LL rfl (L9.out.alloc _) ?_)
            have Z10 := Lib.hid (show Bk (w9.alloc (.cells #[.int .i64 (LL.c k).st, .string (LL.c k).d] 23)) w9.heap.size 23 #[.int .i64 (LL.c k).st, .string (LL.c k).d] from Bk.new _ _ _)
            have Y10 := Lib.hid (Y9.out.alloc (.cells #[.int .i64 (LL.c k).st, .string (LL.c k).d] 23)); have L10 := Lib.hid (L9.out.alloc (.cells #[.int .i64 (LL.c k).st, .string (LL.c k).d] 23)); have H10 := Lib.hid (H9.out.alloc (.cells #[.int .i64 (LL.c k).st, .string (LL.c k).d] 23))
            have B10 := Lib.hid (B9.out.alloc B9.out.size (.cells #[.int .i64 (LL.c k).st, .string (LL.c k).d] 23))
            have ltG := Lib.hid Y9.out.lt; have ltL := Lib.hid L9.out.lt; have ltH := Lib.hid H9.out.lt; have geD := Lib.hid B9.out.size
            refine (NL.out _).mono ?_
            rintro e w11 ⟨rfl, hb⟩
            have Y11 := Lib.hid (Y10.out.kept hb); have L11 := Lib.hid (L10.out.kept hb); have H11 := Lib.hid (H10.out.kept hb); have B11 := Lib.hid (below_then B10.out hb B10.out.size)
            have Z11 := Lib.hid (Z10.out.kept hb)
            clear hb l0 l1 Y9 L9 H9 B9 Y10 L10 H10 B10 Z10
            generalize w9.heap.size = D at *
            go_wp2_with (refine load_page rfl (.tmp 16) rfl GL LL rfl L11.out ?_)
            refine (NL.out _).mono ?_
            rintro e w12 ⟨rfl, hb⟩
            have Y12 := Lib.hid (Y11.out.kept hb); have L12 := Lib.hid (L11.out.kept hb); have H12 := Lib.hid (H11.out.kept hb); have B12 := Lib.hid (below_then B11.out hb B11.out.size)
            have Z12 := Lib.hid (Z11.out.kept hb)
            clear hb Y11 L11 H11 B11 Z11
            obtain ⟨h0, h1⟩ := HJ.out _ H12.out
            have Z13 := Lib.hid (row_ce (c := HH.c j) (d := LL.c k) Z12.out)
            have Y13 := Lib.hid (row_far (cs := #[.int .i64 (HH.c j).st, .string (HH.c j).d]) (g := D) Y12.out (by have := ltG.out; omega))
            have L13 := Lib.hid (row_far (cs := #[.int .i64 (HH.c j).st, .string (HH.c j).d]) (g := D) L12.out (by have := ltL.out; omega))
            have H13 := Lib.hid (row_far (cs := #[.int .i64 (HH.c j).st, .string (HH.c j).d]) (g := D) H12.out (by have := ltH.out; omega))
            have B13 := Lib.hid (below_setRow B12.out geD.out #[.int .i64 (HH.c j).st, .string (HH.c j).d])
            have tokS : True := trivial
            go_wp2_with (have _t := tokS; refine store_ce rfl (.tmp 24) (.tmp 201) rfl D (HH.c j) (LL.c k) rfl rfl Z12.out ?_; clear tokS _t; generalize World.setRow w12 D #[.int .i64 (HH.c j).st, .string (HH.c j).d] = w13 at Z13 Y13 L13 H13 B13 ⊢; obtain ⟨z0, z1⟩ := (show w13.cell? ⟨D, 0, none⟩ = some (.int .i64 (HH.c j).st) ∧ w13.cell? ⟨D, 1, none⟩ = some (.string (HH.c j).d) from ⟨Z13.out.cell 0, Z13.out.cell 1⟩))
            refine (KJ.out _).mono ?_
            rintro e w15 ⟨rfl, hb⟩
            have Y15 := Lib.hid (Y13.out.kept hb); have L15 := Lib.hid (L13.out.kept hb); have H15 := Lib.hid (H13.out.kept hb); have B15 := Lib.hid (below_then B13.out hb B13.out.size)
            have z15 := Z13.out.kept hb
            rw [Q5.out] at z15
            have Z15 := Lib.hid z15
            clear hb z15 Y13 L13 H13 B13 Z13 Y12 L12 H12 B12 Z12
            have y2 := PC.out _ Y15.out
            have y3 : (k : Int) < 6 := by omega
            have z0 := Z15.out.cell 0
            simp only [List.getElem?_toArray, List.getElem?_cons_zero, List.getElem?_cons_succ] at z0
            have Y16 := Lib.hid (fun n => Y15.out.drewN n); have L16 := Lib.hid (fun n => L15.out.drewN n); have H16 := Lib.hid (fun n => H15.out.drewN n)
            have B16 := Lib.hid (fun n => below_drewN B15.out n)
            clear Y15 L15 H15 B15 Z15
            (try clear q1); (try clear PC); (try clear HK); (try clear KH); (try clear HJ); (try clear Q4); (try clear Q5); (try clear LK); (try clear KJ)
            generalize (p.c k).rst = rs at *
            generalize (p.c k).st = sx at *
            go_wp2_with fail
            have hd : (rs.toList != rs.toList) = false := by simp
            go_big_quiet (fail)
            go_wp2_with fail
            go_roundw
            case rel => exact ⟨k + 1, by omega, by go_num, Y16.out nq, L16.out nq, H16.out nq, B16.out nq⟩
            case measure => simp [intOf]; omega
      · obtain rfl : k = n := by omega
        go_wp2_with fail
        go_ret
        exact ⟨rfl, BR.out⟩
theorem walk_NodeKeeps (v : Value) (k : Kt) (w : World) (h : IsKt v k) :
    Calls Try.prog 6 #[v] w fun e w' => e = .returned (.bool true) ∧ Below w.heap.size w w' := by
  rw [h.is]
  exact keeps_core k.p k.key k.val k.i w h.sz h.sk h.sv h.bi.1 h.bi.2
end Go.Proofs.Ytedoechjjcbeeaa
