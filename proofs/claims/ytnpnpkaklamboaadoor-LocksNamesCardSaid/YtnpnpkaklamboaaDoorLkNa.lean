/- LocksNames. -/
import Derived.Test.YtnpnpkaklamboaaDoorLkN2
set_option linter.unusedVariables false
set_option linter.unusedSimpArgs false
namespace Go.Proofs.YtnpnpkaklamboaaDoor
open Go.RowKit Go.Shelf Go.Maps

theorem tab_LocksNames (W : World) (h : W.cell? ⟨0, 0, none⟩ = some (.int .i64 0) ∧ W.cell? ⟨0, 1, none⟩ = some (.int .i64 1) ∧ W.cell? ⟨0, 2, none⟩ = some (.int .i64 3) ∧
    W.cell? ⟨0, 3, none⟩ = some (.int .i64 5) ∧ W.cell? ⟨0, 4, none⟩ = some (.int .i64 7) ∧ W.cell? ⟨0, 5, none⟩ = some (.int .i64 13) ∧ W.cell? ⟨0, 6, none⟩ = some (.int .i64 31)) : Tab W := tab_of W h
section
variable {ops : Array Oper} {rest : List Oper} {o : Oper} {a : Act} {w : World} {Q : Exit → Act → World → Prop}
theorem wp_cmp (hgd : o.guard = none) (bo : BinOp) (t t' : TypeId) (hg : Tryd.prog.eqGuardType Tryd.prog.depth t = false) (y z : Operand) (ho : o.op = .binOp bo t y z t') (c d : Array Value) (u : Value) (hx : a.eval y = .agg c) (hy : a.eval z = .agg d)
    (hr : (binOp bo t (.agg c) (.agg d)).run Tryd.prog w = .ok u w) (hK : wpList Tryd.prog ops Q rest (a.put o.dst u) w) : wpList Tryd.prog ops Q (o :: rest) a w := by
  refine wpList_plain hgd fun _ hK2 => ?_
  unfold Oper.wp execOp
  have hh : (eqGuard bo t y z (.agg c) (.agg d)).run Tryd.prog w = .ok () w := run_eqGuard_agg _ _ _ _ _ _ _ hg
  simp only [ho, hx, hy, Sem.run_bind, Sem.run_pure, Result.andThen_ok, hr, hh]
  exact hK2 _ _ hK
end
theorem bool_zero9 (w : World) : (zeroValue 4).run Tryd.prog w = .ok (.bool false) w := by kernel_rfl
theorem two_asks {w0 w : World} {S : Nat → Prop} {ta tb k : Nat} {Ta Tb : Tbl} {n : Nm} {mine : Int → Bool} (h : L2 w0 S w ta tb k Ta Tb) (hi : NI n mine Ta Tb) (hk : k ≤ 298) {x : Int} (hx : I64 x) (hm : mine x = true) (hn : n.wf) (m : Int) :
    ∃ (z : Bool) (ee : Int) (Ta' Tb' : Tbl), NI n mine Ta' Tb' ∧
      (Calls Tryd.prog 12 #[ptr ta, .int .i64 x, .agg #[.int .i64 n.s, .string n.t], .int .i64 m] w fun e w' => e = .returned (.tuple #[.bool z, .int .i64 ee]) ∧ L2 w0 S w' ta tb (k + 1) Ta' Tb ∧ Ks S w w') ∧
      ∀ w1, L2 w0 S w1 ta tb (k + 1) Ta' Tb → Calls Tryd.prog 12 #[ptr tb, .int .i64 x, .agg #[.int .i64 n.s, .string n.t], .int .i64 m] w1 fun e w' => e = .returned (.tuple #[.bool z, .int .i64 ee]) ∧ L2 w0 S w' ta tb (k + 2) Ta' Tb' ∧ Ks S w1 w' := by
  by_cases h1 : m ≤ 0 ∨ 6 < m
  · exact ⟨false, 1, Ta, Tb, hi, (askt_arg x m n h1).mono fun e w' ⟨a, b⟩ => ⟨a, (h.kept b).mono (by omega), h.ks b⟩, fun w1 g => (askt_arg x m n h1).mono fun e w' ⟨a, b⟩ => ⟨a, (g.kept b).mono (by omega), g.ks b⟩⟩
  · obtain ⟨m, rfl⟩ : ∃ j : Nat, m = j := ⟨m.toNat, by omega⟩
    have we := hi.wt h.oka h.okb hm
    cases e : Ta.wt x with
    | some j =>
      rw [e] at we
      refine ⟨false, 211, Ta, Tb, hi, ?_, fun w1 g => ?_⟩
      · obtain ⟨Fa, Fb, g1, g2, _⟩ := h.lt
        exact (askt_busy g1.tm x m hx n (by omega) (by omega) (by rw [e]; rfl)).mono fun e w' ⟨a, b⟩ => ⟨a, (h.kept b).mono (by omega), h.ks b⟩
      · obtain ⟨Fa, Fb, g1, g2, _⟩ := g.lt
        exact (askt_busy g2.tm x m hx n (by omega) (by omega) we.symm).mono fun e w' ⟨a, b⟩ => ⟨a, (g.kept b).mono (by omega), g.ks b⟩
    | none =>
      rw [e] at we
      have eb : Tb.wt x = none := by
        cases e2 : Tb.wt x with
        | none => rfl
        | some j => rw [e2] at we; cases we
      refine ⟨((Ta.q n).ask cpN jnN x m).2, 0, _, _, hi.ask x m, l2_ask h (by omega) x hx n hn m (by omega) (by omega) e, fun w1 g => ?_⟩
      rw [hi.eq]
      exact (l2_ask g.swap (by omega) x hx n hn m (by omega) (by omega) eb).mono fun e w' ⟨a, b, c⟩ => ⟨a, b.swap, c⟩
theorem one_ask {w0 w : World} {S : Nat → Prop} {ta tb k : Nat} {Ta Tb : Tbl} {n j : Nm} {mine : Int → Bool} (h : L2 w0 S w ta tb k Ta Tb) (hi : NI n mine Ta Tb) (hk : k ≤ 298) {x : Int} (hx : I64 x) (hm : mine x = false) (hj : j.wf) (hjn : j ≠ n) (m : Int) :
    ∃ (z : Bool) (ee : Int) (Ta' : Tbl), NI n mine Ta' Tb ∧
      (Calls Tryd.prog 12 #[ptr ta, .int .i64 x, .agg #[.int .i64 j.s, .string j.t], .int .i64 m] w fun e w' => e = .returned (.tuple #[.bool z, .int .i64 ee]) ∧ L2 w0 S w' ta tb (k + 1) Ta' Tb ∧ Ks S w w') := by
  by_cases h1 : m ≤ 0 ∨ 6 < m
  · exact ⟨false, 1, Ta, hi, (askt_arg x m j h1).mono fun e w' ⟨a, b⟩ => ⟨a, (h.kept b).mono (by omega), h.ks b⟩⟩
  · obtain ⟨m, rfl⟩ : ∃ j : Nat, m = j := ⟨m.toNat, by omega⟩
    cases e : Ta.wt x with
    | some y =>
      obtain ⟨Fa, Fb, g1, g2, _⟩ := h.lt
      exact ⟨false, 211, Ta, hi, (askt_busy g1.tm x m hx j (by omega) (by omega) (by rw [e]; rfl)).mono fun e w' ⟨a, b⟩ => ⟨a, (h.kept b).mono (by omega), h.ks b⟩⟩
    | none => exact ⟨_, 0, _, hi.other hjn hm m, l2_ask h (by omega) x hx j hj m (by omega) (by omega) e⟩
/-- Who asks for the name. -/
def mn (l : List Cl) (n : Nm) (x : Int) : Bool := l.any fun c => decide (c.n = n) && decide (c.x = x)
theorem mn_step (l : List Cl) (n : Nm) (i : Nat) (hi : i < l.length) (x : Int) : mn (l.take (i + 1)) n x = (mn (l.take i) n x || (decide (l[i].n = n) && decide (l[i].x = x))) := by
  unfold mn
  rw [List.take_succ_eq_append_getElem hi, List.any_append]
  simp
theorem mn_of {l : List Cl} {n : Nm} {c : Cl} (hc : c ∈ l) (hn : c.n = n) : mn l n c.x = true := List.any_eq_true.2 ⟨c, hc, by simp [hn]⟩
@[reducible] def mf (l : List Cl) (n : Nm) (x : Int) : Option Value := if mn l n x = true then some (.bool true) else none
set_option maxRecDepth 100000 in
set_option maxHeartbeats 8000000 in
theorem walk_LocksNames (v0 : Value) (l : List Cl) (v1 : Value) (n : Nm) (W : World) (hT : Tab W) (h0 : ClAt W W.heap.size v0 l) (h1 : IsNm v1 n) :
    Calls Tryd.prog 6 #[v0, v1] W fun e w' => e = .returned (.bool true) ∧ Below W.heap.size W w' := by
  have hmm := @run_makeMap Tryd.prog
  obtain ⟨rfl, hn⟩ := h1
  obtain ⟨s, tt⟩ := n
  have IN := Lib.hid h0
  obtain ⟨⟨a, cp, rfl, hat⟩, hlen, hbd⟩ := h0
  have BD := Lib.hid hbd
  obtain ⟨N, hN⟩ : ∃ N, N = l.length := ⟨_, rfl⟩
  have NE := Lib.hid hN
  have N63 : N ≤ 9223372036854775807 := by unfold maxLen at hlen; omega
  rw [← hN]
  have B0 := Lib.hid ((Below.refl W.heap.size W).alloc (Nat.le_refl _) (.cells #[.int .i64 s, .string tt] 27))
  have KN := Lib.hid (Bk.new W 27 #[.int .i64 s, .string tt])
  have T0 := Lib.hid (hT.below B0.out)
  obtain ⟨P, hP⟩ : ∃ P, P = W.heap.size := ⟨_, rfl⟩
  have HP := Lib.hid hP
  rw [← hP] at KN
  have HN := Lib.hid hn
  clear hT hP hn hat hlen hbd hN
  go_enter Tryd.func6, Tryd.ntmps6
  go_upto_region 1 with fail
  rw [← HP.out]
  generalize W.alloc (.cells #[.int .i64 s, .string tt] 27) = w1 at *
  have CA := Lib.hid (awake_any T0.out)
  clear hmm
  go_wp2_with fail
  refine CA.out.mono ?_
  rintro e w3 ⟨rfl, hb⟩
  have TB := Lib.hid (T0.out.below hb)
  have B := Lib.hid (below_then B0.out hb B0.out.size)
  have KB := Lib.hid (KN.out.kept hb)
  clear T0 B0 KN CA hb
  by_cases hbig : 100 < N
  · go_wp2
    go_ret
    exact ⟨rfl, B.out⟩
  have C0 := Lib.hid (l1_new TB.out)
  go_wp2_with fail
  refine C0.out.mono ?_
  rintro e w4 ⟨ta, rfl, hL⟩
  have C1 := Lib.hid (l2_new TB.out hL)
  clear C0 hL
  as_aux_lemma =>
    go_wp2_with fail
    refine C1.out.mono ?_
    rintro e w5 ⟨tb, rfl, hL⟩
    have hmm := @run_makeMap Tryd.prog
    obtain ⟨mb, hmb⟩ : ∃ mb, mb = w5.heap.size := ⟨_, rfl⟩
    have M0 := Lib.hid (show L2 w3 (fun i => i = mb) (w5.alloc (.map #[] 0)) ta tb 0 Tbl.nil Tbl.nil from (hL.alloc _).sub fun i hi => .inr (by rw [hi, hmb]))
    have MP := Lib.hid (show Mp (w5.alloc (.map #[] 0)) Tryd.prog 3 mb 0 (fun _ => none) from by rw [hmb]; exact Mp.made w5 Tryd.prog 3)
    have MB := Lib.hid hmb
    have M5S := Lib.hid (show w3.heap.size ≤ w5.heap.size from hL.kp.size)
    clear C1 hL hmb
    go_upto_region 7 with fail
    rw [← MB.out]
    generalize w5.alloc (.map #[] 0) = w6 at *
    have MG := Lib.hid (show w3.heap.size ≤ mb from by have := M5S.out; rw [MB.out]; exact this)
    clear hmm MB M5S
    have M1 := Lib.hid (show Mp w6 Tryd.prog 3 mb 0 (keyI fun x => mf (l.take 0) ⟨s, tt⟩ x) from MP.out.congr (by rw [show (fun x => mf (l.take 0) ⟨s, tt⟩ x) = fun _ => none from rfl]; exact keyI_none.symm))
    clear MP
    as_aux_lemma =>
      go_wp2_with fail
      go_loopw [27] (fun s27 wr => ∃ (i : Nat), s27 = .int .i64 (i : Int) ∧ i ≤ N ∧ Hid (L2 w3 (fun i => i = mb) wr ta tb 0 Tbl.nil Tbl.nil ∧ Mp wr Tryd.prog 3 mb i (keyI fun x => mf (l.take i) ⟨s, tt⟩ x))) (fun s27 _ => N - (intOf s27).toNat)
      case atStart => exact ⟨0, rfl, Nat.zero_le _, Lib.hid ⟨M0.out, M1.out⟩⟩
      case round =>
        clear M0 M1
        obtain ⟨i, rfl, hiN, hI⟩ := hrel
        by_cases hlt : i < N
        · have HLT := Lib.hid hlt
          have IW := Lib.hid (IN.out.below (below_then B.out hI.out.1.kp B.out.size))
          obtain ⟨⟨a', cp', ha, hat⟩, -, -⟩ := IW.out
          obtain ⟨rfl, rfl⟩ : a = a' ∧ cp = cp' := by
            have h := ha
            rw [← NE.out] at h
            simpa using h
          obtain ⟨b, off, rfl, -, hR⟩ := hat i (by rw [← NE.out]; exact hlt)
          obtain ⟨c, hc⟩ : ∃ c, c = l[i]'(by rw [← NE.out]; exact hlt) := ⟨_, rfl⟩
          have MS := Lib.hid (fun x => mn_step l ⟨s, tt⟩ i (by rw [← NE.out]; exact hlt) x)
          rw [← hc] at hR MS
          have RG := Lib.hid hR
          have CI := Lib.hid (show c.in_ from BD.out c (by rw [hc]; exact List.getElem_mem _))
          clear hat hR hc ha IW
          obtain ⟨x, ⟨s2, tt2⟩, m⟩ := c
          go_upto_region 10 with (first | (refine load_cl rfl _ rfl b (off + i * 4) ⟨x, ⟨s2, tt2⟩, m⟩ rfl RG.out ?_))
          obtain ⟨K, hK⟩ : ∃ K, K = wr.heap.size := ⟨_, rfl⟩
          have KN := Lib.hid (show Bk (wr.alloc (.cells #[.int .i64 x, .int .i64 s2, .string tt2, .int .i64 m] 29)) K 29 #[.int .i64 x, .int .i64 s2, .string tt2, .int .i64 m] from by rw [hK]; exact Bk.new wr _ _)
          have M1 := Lib.hid (show L2 w3 (fun i => i = mb) (wr.alloc (.cells #[.int .i64 x, .int .i64 s2, .string tt2, .int .i64 m] 29)) ta tb 0 Tbl.nil Tbl.nil from (hI.out.1.alloc _).sub fun i hi => .inl hi)
          have P1 := Lib.hid (hI.out.2.alloc (.cells #[.int .i64 x, .int .i64 s2, .string tt2, .int .i64 m] 29))
          rw [← hK]
          clear hI hK RG
          generalize wr.alloc (.cells #[.int .i64 x, .int .i64 s2, .string tt2, .int .i64 m] 29) = w7 at *
          have k0 : w7.cell? ⟨K, 0, none⟩ = some (.int .i64 x) := KN.out.cell 0
          have k1 : w7.cell? ⟨K, 1, none⟩ = some (.int .i64 s2) := KN.out.cell 1
          have k2 : w7.cell? ⟨K, 2, none⟩ = some (.string tt2) := KN.out.cell 2
          have p0 : w7.cell? ⟨P, 0, none⟩ = some (.int .i64 s) := (KB.out.kept M1.out.kp).cell 0
          have p1 : w7.cell? ⟨P, 1, none⟩ = some (.string tt) := (KB.out.kept M1.out.kp).cell 1
          have NQ := Lib.hid (name_eql ⟨s2, tt2⟩ ⟨s, tt⟩ w7)
          obtain ⟨d, hd⟩ : ∃ d, d = decide ((⟨s2, tt2⟩ : Nm) = ⟨s, tt⟩) := ⟨_, rfl⟩
          have HD := Lib.hid hd
          rw [← hd] at NQ
          clear hd
          cases d with
          | true =>
            obtain ⟨w8, hu, hm8, hg8⟩ := P1.out.store int_keyed9 Tryd.underlying46 (by unfold maxLen; have := HLT.out; omega) (.bool true) (keyOf_int_mk Tryd.underlying3 (wf_int CI.out.x))
            have M8 := Lib.hid (show L2 w3 (fun i => i = mb) w8 ta tb 0 Tbl.nil Tbl.nil from M1.out.touch TB.out hg8 rfl MG.out)
            have P8 := Lib.hid (show Mp w8 Tryd.prog 3 mb (i + 1) (keyI fun x => mf (l.take (i + 1)) ⟨s, tt⟩ x) from by
              rw [keyI_put] at hm8
              refine hm8.congr (congrArg keyI (funext fun y => ?_))
              show (if y = x then some (.bool true) else mf (l.take i) ⟨s, tt⟩ y) = mf (l.take (i + 1)) ⟨s, tt⟩ y
              unfold mf
              rw [MS.out y, ← HD.out]
              by_cases e : y = x
              · subst e; simp
              · have e2 : ¬ x = y := fun h => e h.symm
                simp [e, e2])
            clear M1 P1 hm8 hg8 KN
            go_wp2_with (first | (refine wp_cmp rfl .eql 27 _ name_guard _ _ rfl _ _ _ rfl rfl NQ.out ?_))
            go_roundw
            case rel => exact ⟨i + 1, by go_num, by have := HLT.out; omega, Lib.hid ⟨M8.out, P8.out⟩⟩
            case measure => have := HLT.out; simp [intOf]; omega
          | false =>
            have P8 := Lib.hid (show Mp w7 Tryd.prog 3 mb (i + 1) (keyI fun x => mf (l.take (i + 1)) ⟨s, tt⟩ x) from (P1.out.mono (Nat.le_succ i)).congr (congrArg keyI (funext fun y => by
              unfold mf
              rw [MS.out y, ← HD.out]
              simp)))
            clear P1 KN
            go_wp2_with (first | (refine wp_cmp rfl .eql 27 _ name_guard _ _ rfl _ _ _ rfl rfl NQ.out ?_))
            go_roundw
            case rel => exact ⟨i + 1, by go_num, by have := HLT.out; omega, Lib.hid ⟨M1.out, P8.out⟩⟩
            case measure => have := HLT.out; simp [intOf]; omega
        · obtain rfl : N = i := by omega
          have M1 := Lib.hid hI.out.1
          have P1 := Lib.hid (show Mp wr Tryd.prog 3 mb N (keyI fun x => mf l ⟨s, tt⟩ x) from by
            have h := hI.out.2
            rw [NE.out, List.take_length, ← NE.out] at h
            exact h)
          clear hI hlt
          as_aux_lemma =>
            go_wp2_with fail
            go_loopw [41] (fun s41 wr => ∃ (i : Nat) (Ta Tb : Tbl), s41 = .int .i64 (i : Int) ∧ i ≤ N ∧ Hid (L2 w3 (fun i => i = mb) wr ta tb (2 * i) Ta Tb ∧ NI ⟨s, tt⟩ (mn l ⟨s, tt⟩) Ta Tb ∧ Mp wr Tryd.prog 3 mb N (keyI fun x => mf l ⟨s, tt⟩ x))) (fun s41 _ => N - (intOf s41).toNat)
            case atStart => exact ⟨0, _, _, rfl, Nat.zero_le _, Lib.hid ⟨M1.out, NI.nil _ _, P1.out⟩⟩
            case round =>
              clear M1 P1
              obtain ⟨i, Ta, Tb, rfl, hiN, hI⟩ := hrel
              by_cases hlt : i < N
              · have HLT := Lib.hid hlt
                have IW := Lib.hid (IN.out.below (below_then B.out hI.out.1.kp B.out.size))
                obtain ⟨⟨a', cp', ha, hat⟩, -, -⟩ := IW.out
                obtain ⟨rfl, rfl⟩ : a = a' ∧ cp = cp' := by
                  have h := ha
                  rw [← NE.out] at h
                  simpa using h
                obtain ⟨b, off, rfl, -, hR⟩ := hat i (by rw [← NE.out]; exact hlt)
                obtain ⟨c, hc⟩ : ∃ c, c = l[i]'(by rw [← NE.out]; exact hlt) := ⟨_, rfl⟩
                rw [← hc] at hR
                have RG := Lib.hid hR
                have CM := Lib.hid (show c ∈ l from by rw [hc]; exact List.getElem_mem _)
                have CI := Lib.hid (show c.in_ from BD.out c CM.out)
                clear hat hR hc ha IW
                obtain ⟨x, ⟨s2, tt2⟩, m⟩ := c
                go_upto_region 16 with (first | (refine load_cl rfl _ rfl b (off + i * 4) ⟨x, ⟨s2, tt2⟩, m⟩ rfl RG.out ?_))
                obtain ⟨K, hK⟩ : ∃ K, K = wr.heap.size := ⟨_, rfl⟩
                have KN := Lib.hid (show Bk (wr.alloc (.cells #[.int .i64 x, .int .i64 s2, .string tt2, .int .i64 m] 29)) K 29 #[.int .i64 x, .int .i64 s2, .string tt2, .int .i64 m] from by rw [hK]; exact Bk.new wr _ _)
                have M1 := Lib.hid (show L2 w3 (fun i => i = mb ∨ i = K) (wr.alloc (.cells #[.int .i64 x, .int .i64 s2, .string tt2, .int .i64 m] 29)) ta tb (2 * i) Ta Tb from by rw [hK]; exact hI.out.1.alloc _)
                have P1 := Lib.hid (hI.out.2.2.alloc (.cells #[.int .i64 x, .int .i64 s2, .string tt2, .int .i64 m] 29))
                have NX := Lib.hid hI.out.2.1
                rw [← hK]
                clear hI hK RG
                generalize wr.alloc (.cells #[.int .i64 x, .int .i64 s2, .string tt2, .int .i64 m] 29) = w7 at *
                have k0 : w7.cell? ⟨K, 0, none⟩ = some (.int .i64 x) := KN.out.cell 0
                have k1 : w7.cell? ⟨K, 1, none⟩ = some (.int .i64 s2) := KN.out.cell 1
                have k2 : w7.cell? ⟨K, 2, none⟩ = some (.string tt2) := KN.out.cell 2
                have k3 : w7.cell? ⟨K, 3, none⟩ = some (.int .i64 m) := KN.out.cell 3
                have p0 : w7.cell? ⟨P, 0, none⟩ = some (.int .i64 s) := (KB.out.kept M1.out.kp).cell 0
                have p1 : w7.cell? ⟨P, 1, none⟩ = some (.string tt) := (KB.out.kept M1.out.kp).cell 1
                have NQ := Lib.hid (name_neq ⟨s2, tt2⟩ ⟨s, tt⟩ w7)
                by_cases hnm : (⟨s2, tt2⟩ : Nm) = ⟨s, tt⟩
                · have HNM := Lib.hid hnm
                  have MI := Lib.hid (show mn l ⟨s, tt⟩ x = true from mn_of CM.out hnm)
                  rw [decide_eq_true hnm] at NQ
                  clear hnm
                  as_aux_lemma =>
                    go_upto_region 20 with (first | (refine wp_cmp rfl .neq 27 _ name_guard _ _ rfl _ _ _ rfl rfl NQ.out ?_))
                    clear NQ
                    obtain ⟨rfl, rfl⟩ : s2 = s ∧ tt2 = tt := by
                      have h := HNM.out
                      injection h with h1 h2
                      exact ⟨h1, h2⟩
                    by_cases hm : m = 0
                    · subst hm
                      have C1 := Lib.hid (l2_rel M1.out (by omega) x CI.out.x)
                      as_aux_lemma =>
                        go_wp2_with fail
                        refine C1.out.mono ?_
                        rintro e w8 ⟨rfl, hL, hs⟩
                        have M2 := Lib.hid hL
                        have KN2 := Lib.hid (hs.bk (.inr rfl) KN.out)
                        have P2 := Lib.hid (P1.out.of_block (hs mb (.inl rfl)))
                        have NR := Lib.hid (NX.out.rel M1.out.oka M1.out.okb MI.out)
                        have C2 := Lib.hid (l2_rel M2.out.swap (by omega) x CI.out.x)
                        clear C1 hL hs M1 KN P1 k0 k1 k2 k3 p0 p1
                        have k0 : w8.cell? ⟨K, 0, none⟩ = some (.int .i64 x) := KN2.out.cell 0
                        as_aux_lemma =>
                          go_wp2_with fail
                          refine C2.out.mono ?_
                          rintro e w9 ⟨rfl, hL, hs⟩
                          have M3 := Lib.hid (hL.swap.mono (m := 2 * (i + 1)) (by omega))
                          have P3 := Lib.hid (P2.out.of_block (hs mb (.inl rfl)))
                          clear C2 hL hs M2 KN2 P2 k0
                          go_wp2
                          go_roundw
                          case rel => exact ⟨i + 1, _, _, by go_num, by have := HLT.out; omega, Lib.hid ⟨M3.out.sub (fun i h => .inl h), NR.out, P3.out⟩⟩
                          case measure => have := HLT.out; simp [intOf]; omega
                    · have hm0 : (m == 0) = false := by simp [hm]
                      obtain ⟨z, ee, Ta', Tb', hNI, hA, hB⟩ := two_asks M1.out NX.out (by omega) CI.out.x MI.out HN.out m
                      have N2 := Lib.hid hNI
                      have C1 := Lib.hid hA
                      have C2 := Lib.hid hB
                      clear hNI hA hB
                      as_aux_lemma =>
                        go_wp2_with fail
                        refine C1.out.mono ?_
                        rintro e w8 ⟨rfl, hL, hs⟩
                        have M2 := Lib.hid hL
                        have KN2 := Lib.hid (hs.bk (.inr rfl) KN.out)
                        have P2 := Lib.hid (P1.out.of_block (hs mb (.inl rfl)))
                        have D2 := Lib.hid (C2.out w8 hL)
                        clear C1 C2 hL hs M1 KN P1 k0 k1 k2 k3 p0 p1
                        have k0 : w8.cell? ⟨K, 0, none⟩ = some (.int .i64 x) := KN2.out.cell 0
                        have k3 : w8.cell? ⟨K, 3, none⟩ = some (.int .i64 m) := KN2.out.cell 3
                        have p0 : w8.cell? ⟨P, 0, none⟩ = some (.int .i64 s2) := (KB.out.kept M2.out.kp).cell 0
                        have p1 : w8.cell? ⟨P, 1, none⟩ = some (.string tt2) := (KB.out.kept M2.out.kp).cell 1
                        as_aux_lemma =>
                          go_wp2_with fail
                          refine D2.out.mono ?_
                          rintro e w9 ⟨rfl, hL, hs⟩
                          have M3 := Lib.hid hL
                          have KN3 := Lib.hid (hs.bk (.inr rfl) KN2.out)
                          have P3 := Lib.hid (P2.out.of_block (hs mb (.inl rfl)))
                          clear D2 hL hs M2 KN2 P2 k0 k3 p0 p1
                          have k0 := fun x' : Kp w9 => show x'.1.cell? ⟨K, 0, none⟩ = some (.int .i64 x) from x'.cell (KN3.out.cell 0)
                          have p0 := fun x' : Kp w9 => show x'.1.cell? ⟨P, 0, none⟩ = some (.int .i64 s2) from x'.cell ((KB.out.kept M3.out.kp).cell 0)
                          have p1 := fun x' : Kp w9 => show x'.1.cell? ⟨P, 1, none⟩ = some (.string tt2) from x'.cell ((KB.out.kept M3.out.kp).cell 1)
                          have C1 := Lib.hid (fun x' : Kp w9 => l1_mode (M3.out.one.kept x'.2) (by omega) x ⟨s2, tt2⟩ HN.out)
                          have C2 := Lib.hid (fun x' : Kp w9 => l1_mode (M3.out.swap.one.kept x'.2) (by omega) x ⟨s2, tt2⟩ HN.out)
                          have C3 := Lib.hid (fun x' : Kp w9 => l1_wait (M3.out.one.kept x'.2) x CI.out.x)
                          have C4 := Lib.hid (fun x' : Kp w9 => l1_wait (M3.out.swap.one.kept x'.2) x CI.out.x)
                          rw [N2.out.mode x] at C1
                          rw [N2.out.wt M3.out.oka M3.out.okb MI.out] at C3
                          obtain ⟨md, hmd⟩ : ∃ md, md = Tb'.mode x ⟨s2, tt2⟩ := ⟨_, rfl⟩
                          obtain ⟨wz, hwz⟩ : ∃ wz, wz = (Tb'.wt x).isSome := ⟨_, rfl⟩
                          rw [← hmd] at C1 C2
                          rw [← hwz] at C3 C4
                          clear hmd hwz
                          as_aux_lemma =>
                            go_upto_region 25 with fail
                            refine wp_region_kept (by kernel_rfl) (by kernel_rfl) ?_
                            iterate 14 (first
                              | go_big_quiet_skip
                              | (go_big_quiet_want; go_big_quiet_op; first | go_big_quiet_on | go_big_quiet_call (exact kp_call (C1.out _))))
                            iterate 5 (first
                              | go_big_quiet_skip
                              | (go_big_quiet_want; go_big_quiet_op; first | go_big_quiet_on | go_big_quiet_call (exact kp_call (C2.out _))))
                            iterate 7 (first
                              | go_big_quiet_skip
                              | (go_big_quiet_want; go_big_quiet_op; first | go_big_quiet_on | go_big_quiet_call (exact kp_call (C3.out _))))
                            iterate 4 (first
                              | go_big_quiet_skip
                              | (go_big_quiet_want; go_big_quiet_op; first | go_big_quiet_on | go_big_quiet_call (exact kp_call (C4.out _))))
                            iterate 2 (first
                              | go_big_quiet_skip
                              | (go_big_quiet_want; go_big_quiet_op; first | go_big_quiet_on))
                            refine wpQuiet_nil ?_
                            rintro _ ⟨xw, rfl⟩
                            have M4 := Lib.hid ((M3.out.kept xw.2).mono (m := 2 * (i + 1)) (by omega))
                            have P4 := Lib.hid (P3.out.kept xw.2)
                            clear k0 p0 p1 C1 C2 C3 C4 M3 KN3 P3
                            generalize xw.1 = w10 at M4 P4 ⊢
                            clear xw
                            go_wp2
                            go_roundw
                            case rel => exact ⟨i + 1, _, _, by go_num, by have := HLT.out; omega, Lib.hid ⟨M4.out.sub (fun i h => .inl h), N2.out, P4.out⟩⟩
                            case measure => have := HLT.out; simp [intOf]; omega
                · have HNM := Lib.hid hnm
                  rw [decide_eq_false hnm] at NQ
                  clear hnm
                  as_aux_lemma =>
                    go_upto_region 18 with (first | (refine wp_cmp rfl .neq 27 _ name_guard _ _ rfl _ _ _ rfl rfl NQ.out ?_))
                    clear NQ
                    obtain ⟨X, hX⟩ : ∃ X, X = bits BinOp.xor IntKind.i64 x 1099511627776 := ⟨_, rfl⟩
                    rw [← hX]
                    have XI := Lib.hid (show I64 X by rw [hX]; exact int_in9 (wf_bits _ _ _ _))
                    clear hX
                    have LK := (P1.out.look int_keyed9 Tryd.underlying46 (bool_zero9 w7) (keyOf_int_mk Tryd.underlying3 (wf_int XI.out))).2
                    rw [keyI_at] at LK
                    cases hmx : mn l ⟨s, tt⟩ X with
                    | true =>
                      simp only [mf, hmx, if_true, Option.getD_some] at LK
                      have M3 := Lib.hid (M1.out.mono (m := 2 * (i + 1)) (by omega))
                      clear M1 hmx
                      go_wp2
                      go_roundw
                      case rel => exact ⟨i + 1, _, _, by go_num, by have := HLT.out; omega, Lib.hid ⟨M3.out.sub (fun i h => .inl h), NX.out, P1.out⟩⟩
                      case measure => have := HLT.out; simp [intOf]; omega
                    | false =>
                      simp only [mf, hmx, Bool.false_eq_true, if_false, Option.getD_none] at LK
                      obtain ⟨z, ee, Ta', hNI, hA⟩ := one_ask M1.out NX.out (by omega) XI.out hmx CI.out.n HNM.out m
                      have N2 := Lib.hid hNI
                      have C1 := Lib.hid hA
                      clear hNI hA hmx
                      as_aux_lemma =>
                        go_wp2_with fail
                        refine C1.out.mono ?_
                        rintro e w8 ⟨rfl, hL, hs⟩
                        have M2 := Lib.hid (hL.mono (m := 2 * (i + 1)) (by omega))
                        have P2 := Lib.hid (P1.out.of_block (hs mb (.inl rfl)))
                        clear C1 hL hs M1 P1 LK k0 k1 k2 k3 p0 p1
                        go_wp2
                        go_roundw
                        case rel => exact ⟨i + 1, _, _, by go_num, by have := HLT.out; omega, Lib.hid ⟨M2.out.sub (fun i h => .inl h), N2.out, P2.out⟩⟩
                        case measure => have := HLT.out; simp [intOf]; omega
              · obtain rfl : N = i := by omega
                clear hlt
                have B9 := Lib.hid (below_then B.out hI.out.1.kp B.out.size)
                clear hI
                go_wp2
                go_ret
                exact ⟨rfl, B9.out⟩
end Go.Proofs.YtnpnpkaklamboaaDoor
