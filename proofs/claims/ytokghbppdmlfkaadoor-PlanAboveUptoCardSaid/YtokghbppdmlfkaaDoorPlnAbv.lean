/- The walk of PlanAbove. -/
import Derived.Test.YtokghbppdmlfkaaDoorPlnAwake
import Derived.Test.YtokghbppdmlfkaaDoorPlnRuns
import Derived.Test.YtokghbppdmlfkaaDoorPlnCov
import Derived.Test.YtokghbppdmlfkaaDoorKept
import Derived.RegionTactic
import Derived.ChangeAlike
import Derived.BigRegion
set_option linter.unusedVariables false
set_option linter.unusedSimpArgs false
namespace Go.Proofs.YtokghbppdmlfkaaDoor
open Go.RowKit

theorem nil_eq (it : ByteArray) : (it.toList == (⟨#[]⟩ : ByteArray).toList) = decide (it = ⟨#[]⟩) := by
  by_cases h : it = ⟨#[]⟩
  · subst h; simp
  · have := str_ne h
    simp only [h, decide_false]
    exact this
theorem name_eql (st : Int) (it : ByteArray) (w : World) : (binOp .eql 38 (.agg #[.int .i64 st, .string it]) (.agg #[.int .i64 0, .string ⟨#[]⟩])).run Tryd.prog w = .ok (.bool (decide (st = 0 ∧ it = ⟨#[]⟩))) w := by
  have e := name_eq 9998 ⟨st, it, 0⟩ ⟨0, ⟨#[]⟩, 0⟩ w
  have e' : (Op.equalIn 10000 38 (.agg #[.int .i64 st, .string it]) (.agg #[.int .i64 0, .string ⟨#[]⟩])).run Tryd.prog w = .ok (decide (st = 0 ∧ it = ⟨#[]⟩)) w := by
    refine e.trans ?_
    rw [nil_eq]
    by_cases h : st = 0 <;> simp [h]
  rw [run_eql_struct, e']; rfl

/-- What stands in a round: the modes' table, the operation, the need. -/
structure AbS (og : Nat) (o : Opn) (d : Nd) (ng : Nat) (x : World) : Prop where
  tab : Tab x
  op : Bk x og 23 #[.int .i64 o.k, .int .i64 o.st, .string o.key, .string o.val, .int .i64 o.num, .int .i64 o.at_, .int .i64 o.len]
  nd : Bk x ng 40 #[.int .i64 d.st, .string d.it, .int .i64 d.m]
theorem AbS.kept {og ng : Nat} {o : Opn} {d : Nd} {x y : World} (h : AbS og o d ng x) (hb : Below x.heap.size x y) : AbS og o d ng y :=
  ⟨h.tab.below hb, h.op.kept hb, h.nd.kept hb⟩
theorem AbS.drewN {og ng : Nat} {o : Opn} {d : Nd} {x : World} (h : AbS og o d ng x) (n : Nat) : AbS og o d ng (x.drewN n) := h.kept (below_drewN (Below.refl _ _) _)
theorem AbS.above {og ng : Nat} {o : Opn} {d : Nd} {x : World} (h : AbS og o d ng x) (m : Int) (n : Nat) : Calls Tryd.prog 11 #[.int .i64 m] (x.drewN n) fun e w' => e = .returned (.int .i64 (Md.abv m)) ∧ w' = x.drewN n :=
  (abs_any m (x.drewN n) (h.drewN n).tab).mono fun _ _ ⟨a, b⟩ => ⟨a, b.symm⟩
theorem AbS.covers {og ng : Nat} {o : Opn} {d : Nd} {x : World} (h : AbS og o d ng x) {a b : Int} (hc : Md.cov a b = true) (n : Nat) : Calls Tryd.prog 10 #[.int .i64 a, .int .i64 b] (x.drewN n) fun e w' => e = .returned (.bool true) ∧ ∃ m, w' = (x.drewN n).drewN m := by
  have := cov_any a b (x.drewN n) (h.drewN n).tab
  rw [hc] at this
  exact this

set_option maxRecDepth 100000 in
set_option maxHeartbeats 4000000 in
theorem above_core (o : Opn) (nx : ByteArray) (kv : Value) (ks : List ByteArray) (w : World) (hT : Tab w) (hK : TxAt w w.heap.size kv ks) (hn : ks.length ≤ 1500000) (lo : -9223372036854775808 ≤ o.num) (hi : o.num ≤ 9223372036854775807) :
    Calls Tryd.prog 4 #[.agg o.cs, .string nx, kv] w fun e w' => e = .returned (.bool true) ∧ Below w.heap.size w w' := by
  have CA := Lib.hid awake_any
  have HT := Lib.hid hT; have HK := Lib.hid hK; have HN := Lib.hid hn; have LO := Lib.hid lo; have HI := Lib.hid hi
  have CN1 := Lib.hid (fun w' (h : Pk w' o o kv ks) => needs_any o o nx kv ks 0 w' h)
  have RN := Lib.hid (runs_needs o nx ks 0)
  obtain ⟨ka, kc, rfl, _, _⟩ := hK
  clear hT hn lo hi
  have CP := Lib.hid (show ∀ w', Pk w' o o (.slice ka ks.length kc) ks → Calls Tryd.prog 7 #[.iface 32 (.agg #[.int .i64 o.k, .int .i64 o.st, .string o.key, .string o.val, .int .i64 o.num, .int .i64 o.at_, .int .i64 o.len, .string nx, .slice ka ks.length kc, .int .i64 0]), .agg #[.int .i64 o.k, .int .i64 o.st, .string o.key, .string o.val, .int .i64 o.num, .int .i64 o.at_, .int .i64 o.len]] w' (NeedsPost (needsL o nx ks 0) w') from CN1.out)
  have PK := Lib.hid (fun (w' : World) (hb : Below w.heap.size w w') => show Pk w' o o (.slice ka ks.length kc) ks from ⟨HT.out.below hb, (HK.out.below hb (Nat.le_refl _)).mono hb.size, HN.out, rfl, rfl, rfl, LO.out, HI.out⟩)
  have B0 := Lib.hid (show Below w.heap.size w (w.alloc (.cells #[.int .i64 o.k, .int .i64 o.st, .string o.key, .string o.val, .int .i64 o.num, .int .i64 o.at_, .int .i64 o.len] 23)) from (Below.refl w.heap.size w).alloc (Nat.le_refl _) _)
  have KB := Lib.hid (Bk.new w 23 #[.int .i64 o.k, .int .i64 o.st, .string o.key, .string o.val, .int .i64 o.num, .int .i64 o.at_, .int .i64 o.len])
  clear CN1
  unfold Opn.cs at *
  unfold NeedsPost at CP
  generalize needsL o nx ks 0 = nl at *
  go_enter Tryd.func4, Tryd.ntmps4
  go_wp2_with fail
  refine (CA.out _ (HT.out.below B0.out)).mono ?_
  rintro e w1 ⟨rfl, hb⟩
  have B1 := Lib.hid (below_then B0.out hb B0.out.size); have KB1 := Lib.hid (KB.out.kept hb)
  clear hb B0 KB CA
  have c0 : w1.cell? ⟨w.heap.size, 0, none⟩ = some (.int .i64 o.k) := KB1.out.cell 0; have c1 : w1.cell? ⟨w.heap.size, 1, none⟩ = some (.int .i64 o.st) := KB1.out.cell 1; have c2 : w1.cell? ⟨w.heap.size, 2, none⟩ = some (.string o.key) := KB1.out.cell 2; have c3 : w1.cell? ⟨w.heap.size, 3, none⟩ = some (.string o.val) := KB1.out.cell 3; have c4 : w1.cell? ⟨w.heap.size, 4, none⟩ = some (.int .i64 o.num) := KB1.out.cell 4; have c5 : w1.cell? ⟨w.heap.size, 5, none⟩ = some (.int .i64 o.at_) := KB1.out.cell 5; have c6 : w1.cell? ⟨w.heap.size, 6, none⟩ = some (.int .i64 o.len) := KB1.out.cell 6
  go_wp2_with fail
  refine (CP.out w1 (PK.out w1 B1.out)).mono ?_
  rintro e w2 ⟨v1, rfl, hN, hb⟩
  have N1 := Lib.hid hN; have B2 := Lib.hid (below_then B1.out hb B1.out.size); have KB2 := Lib.hid (KB1.out.kept hb); have HT2 := Lib.hid (HT.out.below (below_then B1.out hb B1.out.size))
  clear c0 c1 c2 c3 c4 c5 c6 hN hb KB1 B1 CP PK HT HK HN LO HI
  obtain ⟨a1, k1, rfl⟩ := nd_slice N1.out
  have nm : nl.length ≤ 9223372036854775807 := by
    rcases N1.out.2 with ⟨_, h0⟩ | ⟨g, cap, cur, hv, h1, h2, h3, h4, _⟩
    · omega
    · have : nl.length ≤ cap := h3
      unfold maxLen at h4
      omega
  go_wp2_with fail
  go_loopw [7, 8, 21] (fun vo so i wr => ∃ (j : Nat) (v t : Int), j ≤ nl.length ∧ vo = .int .i64 v ∧ so = .int .i64 t ∧ i = .int .i64 j ∧ runs o.st (v, t) (nl.drop j) ∧ Below w2.heap.size w2 wr) (fun _ _ i _ => nl.length - (intOf i).toNat)
  case atStart => exact ⟨0, 0, 0, Nat.zero_le _, rfl, rfl, rfl, RN.out, Below.refl _ _⟩
  case round =>
    obtain ⟨j, v, t, hj, rfl, rfl, rfl, hr, hb⟩ := hrel
    have B6 := Lib.hid hb
    clear hb
    by_cases hlt : j < nl.length
    · have HLT := Lib.hid hlt
      obtain ⟨g1, h1, e1, _, _, hc1⟩ := nd_at (nd_kept N1.out B6.out) (by omega)
      obtain ⟨rfl, rfl⟩ : a1 = some ⟨g1, 0, none⟩ ∧ k1 = h1 := by simpa using e1
      obtain ⟨x0, x1, x2⟩ := hc1 j _ (List.getElem?_eq_getElem hlt)
      rw [List.drop_eq_getElem_cons hlt] at hr
      generalize nl[j] = d at *
      obtain ⟨dst, dit, dm⟩ := d
      obtain ⟨m0, m6, s', hs, hrr⟩ := hr
      obtain ⟨v', t'⟩ := s'
      dsimp only at x0 x1 x2 m0 m6
      have HR := Lib.hid hrr
      have hj0 : (0 : Int) ≤ (j : Int) := by omega
      have hjl : (j : Int) < (nl.length : Int) := by omega
      clear e1 hc1 hrr
      have hq := name_eql dst dit
      have M0 := Lib.hid m0; have M6 := Lib.hid m6
      have S0 := Lib.hid (show AbS w.heap.size o ⟨dst, dit, dm⟩ wr.heap.size (wr.alloc (.cells #[.int .i64 dst, .string dit, .int .i64 dm] 40)) from ⟨(HT2.out.below B6.out).below ((Below.refl _ _).alloc (Nat.le_refl _) _), (KB2.out.kept B6.out).alloc _, Bk.new wr _ _⟩)
      have B7 := Lib.hid (B6.out.alloc B6.out.size (.cells #[.int .i64 dst, .string dit, .int .i64 dm] 40))
      clear m0 m6
      unfold stp at hs
      dsimp only at hs
      by_cases hA : dst = 0 ∧ dit = ⟨#[]⟩
      · rw [if_pos hA] at hs
        rw [decide_eq_true hA] at hq
        injection hs with hs
        injection hs with hs1 hs2
        subst hs1 hs2
        clear hA
        go_wp2_with fail
        refine (join_any v dm _ S0.out.tab).mono ?_
        rintro e x ⟨rfl, n1, rfl⟩
        have S := Lib.hid (S0.out.drewN n1); have B := Lib.hid (below_drewN B7.out n1)
        clear S0 B7 x0 x1 x2 hq
        generalize (wr.alloc (.cells #[.int .i64 dst, .string dit, .int .i64 dm] 40)).drewN n1 = x at *
        generalize wr.heap.size = G at *
        have c1 : x.cell? ⟨w.heap.size, 1, none⟩ = some (.int .i64 o.st) := S.out.op.cell 1
        have d2 : x.cell? ⟨G, 2, none⟩ = some (.int .i64 dm) := S.out.nd.cell 2
        have g0 : ¬ dm ≤ 0 := by have := M0.out; omega
        have g6 : ¬ 6 < dm := by have := M6.out; omega
        by_cases h0 : o.st = 0
        · rw [if_pos h0] at HR
          have h0' : (o.st == 0) = true := by simpa using h0
          clear h0
          go_wp2_with fail
          go_roundw
          case rel => exact ⟨j + 1, _, _, by have := HLT.out; omega, rfl, rfl, by go_num, HR.out, B.out⟩
          case measure => have := HLT.out; simp [intOf]; omega
        · rw [if_neg h0] at HR
          have h0' : (o.st == 0) = false := by simpa using h0
          clear h0
          go_wp2_with fail
          go_roundw
          case rel => exact ⟨j + 1, _, _, by have := HLT.out; omega, rfl, rfl, by go_num, HR.out, B.out⟩
          case measure => have := HLT.out; simp [intOf]; omega
      · rw [if_neg hA] at hs
        rw [decide_eq_false hA] at hq
        clear hA
        by_cases hB : dit = ⟨#[]⟩ ∧ dst = o.st
        · rw [if_pos hB] at hs
          obtain ⟨rfl, rfl⟩ := hB
          by_cases hc : Md.cov v (Md.abv dm) = true
          · rw [if_pos hc] at hs
            injection hs with hs
            injection hs with hs1 hs2
            subst hs1 hs2
            have HC := Lib.hid hc
            have c1 : (wr.alloc (.cells #[.int .i64 o.st, .string ⟨#[]⟩, .int .i64 dm] 40)).cell? ⟨w.heap.size, 1, none⟩ = some (.int .i64 o.st) := S0.out.op.cell 1
            clear hc
            go_wp2_with fail
            refine (abs_any dm _ S0.out.tab).mono ?_
            rintro e x ⟨rfl, rfl⟩
            go_wp2_with fail
            have CV := cov_any v (Md.abv dm) _ S0.out.tab
            rw [HC.out] at CV
            refine CV.mono ?_
            rintro e x ⟨rfl, n1, rfl⟩
            have S := Lib.hid (S0.out.drewN n1); have B := Lib.hid (below_drewN B7.out n1)
            clear S0 B7 x0 x1 x2 hq CV c1
            generalize (wr.alloc (.cells #[.int .i64 o.st, .string ⟨#[]⟩, .int .i64 dm] 40)).drewN n1 = x at *
            generalize wr.heap.size = G at *
            have c1 : x.cell? ⟨w.heap.size, 1, none⟩ = some (.int .i64 o.st) := S.out.op.cell 1
            have d0 : x.cell? ⟨G, 0, none⟩ = some (.int .i64 o.st) := S.out.nd.cell 0
            have d2 : x.cell? ⟨G, 2, none⟩ = some (.int .i64 dm) := S.out.nd.cell 2
            go_wp2_with fail
            refine (join_any t dm _ S.out.tab).mono ?_
            rintro e y ⟨rfl, n2, rfl⟩
            have S2 := Lib.hid (S.out.drewN n2); have BB := Lib.hid (below_drewN B.out n2)
            clear S B c1 d0 d2
            generalize x.drewN n2 = y at *
            have c1 : y.cell? ⟨w.heap.size, 1, none⟩ = some (.int .i64 o.st) := S2.out.op.cell 1
            have d0 : y.cell? ⟨G, 0, none⟩ = some (.int .i64 o.st) := S2.out.nd.cell 0
            have d2 : y.cell? ⟨G, 2, none⟩ = some (.int .i64 dm) := S2.out.nd.cell 2
            have g0 : ¬ dm ≤ 0 := by have := M0.out; omega
            have g6 : ¬ 6 < dm := by have := M6.out; omega
            go_wp2_with fail
            go_roundw
            case rel => exact ⟨j + 1, _, _, by have := HLT.out; omega, rfl, rfl, by go_num, HR.out, BB.out⟩
            case measure => have := HLT.out; simp [intOf]; omega
          · rw [if_neg hc] at hs; cases hs
        · rw [if_neg hB] at hs
          by_cases hC : dst = o.st
          · rw [if_pos hC] at hs
            have hne : dit ≠ ⟨#[]⟩ := fun e => hB ⟨e, hC⟩
            subst hC
            by_cases hc : Md.cov v (Md.abv dm) = true ∧ Md.cov t (Md.abv dm) = true
            · rw [if_pos hc] at hs
              injection hs with hs
              injection hs with hs1 hs2
              subst hs1 hs2
              have HC := Lib.hid hc.1; have HC' := Lib.hid hc.2
              clear hc
              have hne2 : dit.toList ≠ [] := by
                intro e
                have h0 : (⟨#[]⟩ : ByteArray).toList = [] := by rw [ByteArray.toList_eq]
                have := str_ne hne
                rw [e, h0] at this
                simp at this
              have hne : dit.toList.isEmpty = false := by simpa using hne2
              have hne3 : (dit.toList == []) = false := by simpa using hne2
              have c1 : (wr.alloc (.cells #[.int .i64 o.st, .string dit, .int .i64 dm] 40)).cell? ⟨w.heap.size, 1, none⟩ = some (.int .i64 o.st) := S0.out.op.cell 1
              go_wp2_with fail
              refine (abs_any dm _ S0.out.tab).mono ?_
              rintro e x ⟨rfl, rfl⟩
              go_wp2_with fail
              have CV := cov_any v (Md.abv dm) _ S0.out.tab
              rw [HC.out] at CV
              refine CV.mono ?_
              rintro e x ⟨rfl, n1, rfl⟩
              have S := Lib.hid (S0.out.drewN n1); have B := Lib.hid (below_drewN B7.out n1)
              clear S0 B7 x0 x1 x2 hq CV c1
              generalize (wr.alloc (.cells #[.int .i64 o.st, .string dit, .int .i64 dm] 40)).drewN n1 = x at *
              generalize wr.heap.size = G at *
              have c1 : x.cell? ⟨w.heap.size, 1, none⟩ = some (.int .i64 o.st) := S.out.op.cell 1
              have d0 : x.cell? ⟨G, 0, none⟩ = some (.int .i64 o.st) := S.out.nd.cell 0
              have d2 : x.cell? ⟨G, 2, none⟩ = some (.int .i64 dm) := S.out.nd.cell 2
              go_wp2_with fail
              refine (abs_any dm _ S.out.tab).mono ?_
              rintro e y ⟨rfl, rfl⟩
              go_wp2_with fail
              have CV := cov_any t (Md.abv dm) _ S.out.tab
              rw [HC'.out] at CV
              refine CV.mono ?_
              rintro e y ⟨rfl, n2, rfl⟩
              have S2 := Lib.hid (S.out.drewN n2); have BB := Lib.hid (below_drewN B.out n2)
              clear S B c1 d0 d2 CV
              generalize x.drewN n2 = y at *
              have c1 : y.cell? ⟨w.heap.size, 1, none⟩ = some (.int .i64 o.st) := S2.out.op.cell 1
              have d0 : y.cell? ⟨G, 0, none⟩ = some (.int .i64 o.st) := S2.out.nd.cell 0
              have d2 : y.cell? ⟨G, 2, none⟩ = some (.int .i64 dm) := S2.out.nd.cell 2
              have g0 : ¬ dm ≤ 0 := by have := M0.out; omega
              have g6 : ¬ 6 < dm := by have := M6.out; omega
              go_wp2_with fail
              go_roundw
              case rel => exact ⟨j + 1, _, _, by have := HLT.out; omega, rfl, rfl, by go_num, HR.out, BB.out⟩
              case measure => have := HLT.out; simp [intOf]; omega
            · rw [if_neg hc] at hs; cases hs
          · rw [if_neg hC] at hs; cases hs
    · go_wp2
      go_ret
      exact ⟨rfl, below_then B2.out B6.out B2.out.size⟩
end Go.Proofs.YtokghbppdmlfkaaDoor
