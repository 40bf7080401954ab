/- The walk of WaitsFinds. -/
import Derived.Test.YtehifnkpmhbimaaWtLaws2
set_option linter.unusedVariables false
set_option linter.unusedSimpArgs false
namespace Go.Proofs.Ytehifnkpmhbimaa
open Go.RowKit

set_option maxHeartbeats 2000000 in
theorem finds_bad (n : Int) (va : Value) (m : Nat) (s t : Nat → Int) (w : World) (h0 : -9223372036854775808 ≤ n) (h1 : n ≤ 9223372036854775807) (ha : ArcI w w.heap.size va m s t) (hf : ¬ Fine n m s t) :
    Calls Try.prog 5 #[.int .i64 n, va] w fun e w' => e = .returned (.bool true) ∧ Below w.heap.size w w' := by
  have CA := Lib.hid (awake_any w)
  have CD := Lib.hid (fun (w' : World) (hb : Below w.heap.size w w') => digests_bad va n m s t w' h0 h1 ((ha.below hb (Nat.le_refl _)).mono hb.size) hf)
  clear hf ha
  go_enter Try.func5, Try.ntmps5
  go_wp2_with fail
  refine CA.out.mono ?_
  rintro e w1 ⟨rfl, hb1⟩
  have B1 := Lib.hid hb1
  clear hb1
  go_wp2_with fail
  refine (CD.out w1 B1.out).mono ?_
  rintro e w2 ⟨rfl, hb2⟩
  have B2 := Lib.hid (below_then B1.out hb2 B1.out.size)
  clear hb2
  go_wp2
  go_ret
  exact ⟨rfl, B2.out⟩

set_option maxRecDepth 100000 in
set_option maxHeartbeats 8000000 in
theorem finds_good (n : Nat) (va : Value) (A : Arcs) (w : World) (hn64 : n ≤ 64) (ha : IsArcs w w.heap.size va A) (hA : A.In n) :
    Calls Try.prog 5 #[.int .i64 n, va] w fun e w' => e = .returned (.bool true) ∧ Below w.heap.size w w' := by
  have CA := Lib.hid (awake_any w)
  have AR := Lib.hid (fun (w' : World) (hb : Below w.heap.size w w') => show IsArcs w' w'.heap.size va A from (ArcI.below ha hb (Nat.le_refl _)).mono hb.size)
  have CD := Lib.hid (fun (w' : World) (hb : Below w.heap.size w w') => digests_good va n A w' hn64 (AR.out w' hb) hA)
  have CS := Lib.hid (fun (w' : World) (hb : Below w.heap.size w w') r u (hu : Row w' w'.heap.size .u64 u n (fun i => (A.it r i : Nat))) => spread_good u va n (A.it r) A w' hn64 (fun j hj => A.it_lt hA hn64 r j hj) hu (AR.out w' hb) hA)
  have CON := Lib.hid (fun (w' : World) (hb : Below w.heap.size w w') x (hx : x < n) (h : A.on n x = true) => circle_on va n x A w' hn64 hx (AR.out w' hb) hA h)
  have COFF := Lib.hid (fun (w' : World) (hb : Below w.heap.size w w') x (hx : x < n) (h : A.on n x = false) => circle_off va n x A w' hn64 hx (AR.out w' hb) hA h)
  have CE := Lib.hid (fun w' u u' (h1 : Row w' w'.heap.size .u64 u n (fun i => (A.it n i : Nat))) (h2 : Row w' w'.heap.size .u64 u' n (fun i => (A.it n i : Nat))) => sameBits_any u u' n n _ _ w' h1 h2 (by unfold maxLen; omega))
  have LT := Lib.hid (fun i (hi : i < n) => A.it_lt hA hn64 n i hi)
  have HA := Lib.hid hA
  obtain ⟨i0, hi, hz0, hz1, hz2⟩ := info_parts Try.info41
  have hmk := fun wx => run_make (P := Try.prog) wx 24 41 i0 (.int .u64 0) Try.underlying24 hi hz0 .i64 .i64 n n (by omega) (by omega) (by rw [hz2]; omega) (by omega)
  simp only [hz1, Nat.mul_one, Value.cells, Int.toNat_natCast] at hmk
  obtain ⟨a, c, rfl, hm, ha⟩ := ha
  have HR := Lib.hid ha
  have hm' : A.m ≤ 9223372036854775807 := by simp only [maxLen] at hm; omega
  clear ha hA hm hi hz0 hz1 hz2
  go_enter Try.func5, Try.ntmps5
  go_wp2_with fail
  refine CA.out.mono ?_
  rintro e w1 ⟨rfl, hb1'⟩
  have B1 := Lib.hid hb1'
  clear hb1' CA
  go_wp2_with fail
  refine (CD.out w1 B1.out).mono ?_
  rintro e w2 ⟨v2, rfl, hr2, hb2'⟩
  have B2 := Lib.hid (below_then B1.out hb2' B1.out.size)
  have R2 := Lib.hid hr2
  obtain ⟨a2, c2, rfl, hj1, hj2⟩ := hr2
  clear hj1 hj2
  clear hb2' CD
  have B3 := Lib.hid (B2.out.alloc B2.out.size (.cells (madeCells #[Value.int .u64 0] n) 41))
  have S3 := Lib.hid (zeros_row w2 n .u64 41)
  have R3 := Lib.hid ((R2.out.below ((Below.refl _ w2).alloc (Nat.le_refl _) (.cells (madeCells #[Value.int .u64 0] n) 41)) (Nat.le_refl _)).mono (show w2.heap.size ≤ (w2.alloc (.cells (madeCells #[Value.int .u64 0] n) 41)).heap.size by simp))
  go_wp2_with fail
  clear hmk
  generalize w2.alloc (.cells (madeCells #[Value.int .u64 0] n) 41) = w3 at *
  go_loopw [7, 40] (fun u i wr => ∃ r : Nat, r ≤ n ∧ i = .int .i64 r ∧ Row wr wr.heap.size .u64 u n (fun i => (A.it r i : Nat)) ∧ Row wr wr.heap.size .u64 (.slice a2 n c2) n (fun i => (A.it n i : Nat)) ∧ Below w.heap.size w wr) (fun _ i _ => n - (intOf i).toNat)
  case atStart => exact ⟨0, Nat.zero_le _, rfl, S3.out, R3.out, B3.out⟩
  case round =>
    clear S3 R3 B3 R2 B2
    obtain ⟨r, hr, rfl, hrow, hd, hb⟩ := hrel
    have ROW := Lib.hid hrow; have DD := Lib.hid hd; have HB := Lib.hid hb
    clear hrow hd hb
    by_cases hlt : r < n
    · have CS1 := Lib.hid (CS.out wr HB.out r _ ROW.out)
      clear CS
      go_wp2_with fail
      refine CS1.out.mono ?_
      rintro e w4 ⟨v4, rfl, hr4, hb4⟩
      have R4 := Lib.hid (show Row w4 w4.heap.size .u64 v4 n (fun i => (A.it (r + 1) i : Nat)) from hr4); have D4 := Lib.hid ((DD.out.below hb4 (Nat.le_refl _)).mono hb4.size); have B4 := Lib.hid (below_then HB.out hb4 HB.out.size)
      clear hr4 hb4 ROW DD HB CS1
      go_wp2
      go_roundw
      case rel => exact ⟨r + 1, by omega, by go_num, R4.out, D4.out, B4.out⟩
      case measure => simp [intOf]; omega
    · obtain rfl : r = n := by omega
      have CE1 := Lib.hid (CE.out wr _ _ ROW.out DD.out)
      clear CS CE
      go_wp2_with fail
      refine CE1.out.mono ?_
      rintro e w4 ⟨⟨rfl, hj1⟩ | ⟨_, hno⟩, hb4⟩
      · have D4 := Lib.hid ((DD.out.below hb4 (Nat.le_refl _)).mono hb4.size); have B4 := Lib.hid (below_then HB.out hb4 HB.out.size)
        clear hb4 ROW DD HB CE1 hj1
        go_wp2_with fail
        go_loopw [55] (fun i wr => ∃ x : Nat, x ≤ r ∧ i = .int .i64 x ∧ Below w.heap.size w wr ∧ Below w4.heap.size w4 wr) (fun i _ => r - (intOf i).toNat)
        case atStart => exact ⟨0, Nat.zero_le _, rfl, B4.out, Below.refl _ _⟩
        case round =>
          obtain ⟨x, hx, rfl, hb, hb'⟩ := hrel
          have HB := Lib.hid hb; have HB' := Lib.hid hb'
          clear hb hb' hlt hr
          by_cases hlt : x < r
          · have d4 := D4.out
            obtain ⟨_, _, e0, _, r2⟩ := d4
            injection e0 with e1 e2 e3
            subst e1
            obtain ⟨g2, o2, rfl, l2, r2⟩ := r2 (by omega)
            have y2 := r2 x hlt
            rw [← HB'.out.cell (p := ⟨g2, o2 + x, none⟩) l2] at y2
            have bt := bit_of x (LT.out _ hlt)
            rw [A.own_bit HA.out hlt] at bt
            have Y2 := Lib.hid y2
            clear r2 e2 e3 y2
            rcases hon : A.on r x with _ | _
            · rw [hon, if_neg (by simp)] at bt
              have CC := Lib.hid (COFF.out wr HB.out x hlt hon)
              have BT := Lib.hid bt
              clear hon COFF CON bt
              go_wp2_with fail
              refine CC.out.mono ?_
              rintro e w5 ⟨rfl, hb5⟩
              have B5 := Lib.hid (below_then HB.out hb5 HB.out.size); have B5' := Lib.hid (below_then HB'.out hb5 HB'.out.size)
              have y2 := Y2.out
              rw [← hb5.cell (p := ⟨g2, o2 + x, none⟩) (Nat.lt_of_lt_of_le l2 HB'.out.size)] at y2
              have bt := BT.out
              clear hb5 CC HB HB' Y2 BT
              generalize A.it r x = xs at *
              go_wp2_with fail
              go_loopw [83] (fun i ws => i = .int .i64 0 ∧ ws = w5) (fun i _ => 0)
              case atStart => exact ⟨rfl, rfl⟩
              case round =>
                obtain ⟨rfl, rfl⟩ := hrel
                clear y2 bt
                go_wp2
                go_roundw
                case rel => exact ⟨x + 1, by omega, by go_num, B5.out, B5'.out⟩
                case measure => simp [intOf]; omega
            · rw [hon, if_pos rfl] at bt
              have CC := Lib.hid (CON.out wr HB.out x hlt hon)
              have BT := Lib.hid bt
              have FAR := Lib.hid (A.q_on hon 0 (Nat.zero_le _)).2.2
              have ARC := Lib.hid (fun i hi => A.q_arc hon i hi)
              have BACK := Lib.hid (A.q_back hon)
              clear hon COFF CON bt
              go_wp2_with fail
              refine CC.out.mono ?_
              rintro e w5 ⟨v5, rfl, hr5, hb5⟩
              have B5 := Lib.hid (below_then HB.out hb5 HB.out.size); have B5' := Lib.hid (below_then HB'.out hb5 HB'.out.size)
              have y2 := Y2.out
              rw [← hb5.cell (p := ⟨g2, o2 + x, none⟩) (Nat.lt_of_lt_of_le l2 HB'.out.size)] at y2
              have bt := BT.out
              obtain ⟨a5, c5, rfl, hj5, r5⟩ := hr5
              obtain ⟨g5, o5, rfl, l5, r5⟩ := r5 (Nat.succ_pos _)
              have Q5 := Lib.hid (fun i (hi : i ≤ A.far r x) => r5 i (by omega))
              have hfl : A.far r x < 64 := by have := FAR.out; omega
              have hpos : (0 : Int) < ((A.far r x : Nat) : Int) + 1 := by omega
              clear hb5 CC HB HB' Y2 BT hj5 r5 FAR
              generalize hfa : A.far r x = fa at *
              have HFA := Lib.hid hfa
              clear hfa
              generalize A.it r x = xs at *
              go_wp2_with fail
              clear y2 bt hpos
              go_loopw [83] (fun i wr => ∃ k : Nat, k ≤ fa + 1 ∧ i = .int .i64 k ∧ Below w.heap.size w wr ∧ Below w5.heap.size w5 wr) (fun i _ => fa + 1 - (intOf i).toNat)
              case atStart => exact ⟨0, Nat.zero_le _, rfl, B5.out, Below.refl _ _⟩
              case round =>
                obtain ⟨i, hi, rfl, hb, hb'⟩ := hrel
                have HB := Lib.hid hb; have HB' := Lib.hid hb'
                clear hb hb'
                by_cases hli : i < fa + 1
                · have z0 : wr.cell? ⟨g5, o5, none⟩ = some (.int .i64 x) := by
                    rw [HB'.out.cell (p := ⟨g5, o5, none⟩) l5]; exact Q5.out 0 (Nat.zero_le _)
                  have zi : wr.cell? ⟨g5, o5 + i, none⟩ = some (.int .i64 (A.q r x i : Nat)) := by
                    rw [HB'.out.cell (p := ⟨g5, o5 + i, none⟩) l5]; exact Q5.out i (by omega)
                  obtain ⟨idx, hx1, hx2, hx3⟩ := ARC.out i (by omega)
                  have IDX := Lib.hid (And.intro hx1 (And.intro hx2 hx3))
                  clear hx1 hx2 hx3
                  have Z0 := Lib.hid (Q5.out 0 (Nat.zero_le _)); have ZI := Lib.hid (show w5.cell? ⟨g5, o5 + i, none⟩ = some (.int .i64 (A.q r x i : Nat)) from Q5.out i (by omega))
                  by_cases hif : i = fa
                  · have hxe : A.q r x (i + 1) = x := by rw [hif]; exact BACK.out
                    rw [hxe] at IDX
                    have hlast : ¬ ((i : Int) + 1 < (fa : Int) + 1) := by omega
                    clear hxe Q5 BACK ARC HFA hif
                    generalize A.q r x i = qi at *
                    go_wp2_with fail
                    have BO := Lib.hid HB.out; have BO' := Lib.hid HB'.out
                    clear z0 zi
                    go_loopw [13, 101] (fun fd j wr => ∃ (k : Nat) (bb : Bool), k ≤ A.m ∧ j = .int .i64 k ∧ fd = .bool bb ∧ (bb = false → ∀ y, y < k → ¬ (A.s y = qi ∧ A.t y = x)) ∧ Below w.heap.size w wr ∧ Below w5.heap.size w5 wr) (fun _ j _ => A.m - (intOf j).toNat)
                    case atStart => exact ⟨0, false, Nat.zero_le _, rfl, rfl, (fun _ y hy => absurd hy (Nat.not_lt_zero _)), BO.out, BO'.out⟩
                    case round =>
                      clear BO BO' HB HB'
                      obtain ⟨k, bb, hk, rfl, rfl, hno, hb, hb'⟩ := hrel
                      have HB := Lib.hid hb; have HB' := Lib.hid hb'; have NO := Lib.hid hno
                      clear hb hb' hno
                      by_cases hlk : k < A.m
                      · obtain ⟨b, off, rfl, hbB, hcell⟩ := HR.out (by omega)
                        have q0 : wr.cell? ⟨b, off + k * 2, none⟩ = some (.int .i64 (A.s k)) := by rw [HB.out.cell (p := ⟨b, off + k * 2, none⟩) hbB]; exact (hcell k hlk).1
                        have q1 : wr.cell? ⟨b, off + k * 2 + 1, none⟩ = some (.int .i64 (A.t k)) := by rw [HB.out.cell (p := ⟨b, off + k * 2 + 1, none⟩) hbB]; exact (hcell k hlk).2
                        have HB3 := Lib.hid (HB.out.alloc HB.out.size (.cells #[.int .i64 (A.s k), .int .i64 (A.t k)] 42))
                        have HB3' := Lib.hid (HB'.out.alloc HB'.out.size (.cells #[.int .i64 (A.s k), .int .i64 (A.t k)] 42))
                        have GA := Lib.hid (Bk.new wr 42 #[.int .i64 (A.s k), .int .i64 (A.t k)])
                        have NX := Lib.hid (fun (hq : ¬ (A.s k = qi ∧ A.t k = x)) (hb : bb = false) y (hy : y < k + 1) => show ¬ (A.s y = qi ∧ A.t y = x) by
                          rcases Nat.lt_or_ge y k with h1 | h1
                          · exact NO.out hb y h1
                          · obtain rfl : y = k := by omega
                            exact hq)
                        clear hcell NO
                        generalize A.s k = sk at *
                        generalize A.t k = tk at *
                        go_wp2_with fail
                        have y0 := GA.out.cell 0; have y1 := GA.out.cell 1
                        simp only [List.getElem?_toArray, List.getElem?_cons_zero, List.getElem?_cons_succ] at y0 y1
                        have zi : (wr.alloc (.cells #[.int .i64 (sk : Nat), .int .i64 (tk : Nat)] 42)).cell? ⟨g5, o5 + i, none⟩ = some (.int .i64 (qi : Nat)) := by
                          rw [HB3'.out.cell (p := ⟨g5, o5 + i, none⟩) l5]; exact ZI.out
                        clear GA q0 q1
                        generalize (wr.alloc (.cells #[.int .i64 (sk : Nat), .int .i64 (tk : Nat)] 42)) = wa at *
                        rcases bb with _ | _
                        · by_cases h1 : sk = qi
                          · subst h1
                            by_cases h2 : tk = x
                            · subst h2
                              clear NX
                              go_wp2_with fail
                              go_region
                              go_wp2
                              go_roundw
                              case rel => exact ⟨k + 1, true, by omega, by go_num, rfl, (fun h => by cases h), HB3.out.drew, HB3'.out.drew⟩
                              case measure => simp [intOf]; omega
                            · have NX1 := Lib.hid (NX.out (fun h => h2 h.2) rfl)
                              have h3 : ((tk : Int) == (x : Int)) = false := by simp; omega
                              have h4 : ¬ ((tk : Int) = (x : Int)) := by omega
                              clear NX
                              go_wp2_with fail
                              go_region
                              go_wp2
                              go_roundw
                              case rel => exact ⟨k + 1, false, by omega, by go_num, rfl, (fun _ => NX1.out), HB3.out.drew, HB3'.out.drew⟩
                              case measure => simp [intOf]; omega
                          · have NX1 := Lib.hid (NX.out (fun h => h1 h.1) rfl)
                            have h3 : ((sk : Int) == (qi : Int)) = false := by simp; omega
                            have h4 : ¬ ((sk : Int) = (qi : Int)) := by omega
                            clear NX
                            go_wp2_with fail
                            go_region
                            go_wp2
                            go_roundw
                            case rel => exact ⟨k + 1, false, by omega, by go_num, rfl, (fun _ => NX1.out), HB3.out.drew, HB3'.out.drew⟩
                            case measure => simp [intOf]; omega
                        · clear NX
                          go_wp2_with fail
                          go_region
                          go_wp2
                          go_roundw
                          case rel => exact ⟨k + 1, true, by omega, by go_num, rfl, (fun h => by cases h), HB3.out.drew, HB3'.out.drew⟩
                          case measure => simp [intOf]; omega
                      · obtain rfl : bb = true := by
                          rcases bb with _ | _
                          · obtain ⟨f1, f2, f3⟩ := IDX.out
                            exact absurd ⟨f2, f3⟩ (NO.out rfl idx (by omega))
                          · rfl
                        clear NO
                        have z0 : wr.cell? ⟨g5, o5, none⟩ = some (.int .i64 (x : Nat)) := by
                          rw [HB'.out.cell (p := ⟨g5, o5, none⟩) l5]; exact Z0.out
                        go_wp2
                        go_roundw
                        case rel => exact ⟨i + 1, by omega, by go_num, HB.out, HB'.out⟩
                        case measure => simp [intOf]; omega
                  · have zn : wr.cell? ⟨g5, o5 + (i + 1), none⟩ = some (.int .i64 (A.q r x (i + 1) : Nat)) := by
                      rw [HB'.out.cell (p := ⟨g5, o5 + (i + 1), none⟩) l5]; exact Q5.out (i + 1) (by omega)
                    have hlast : ((i : Int) + 1 < (fa : Int) + 1) := by omega
                    clear Q5 BACK ARC HFA
                    generalize A.q r x i = qi at *
                    generalize A.q r x (i + 1) = qn at *
                    go_wp2_with fail
                    have BO := Lib.hid HB.out; have BO' := Lib.hid HB'.out
                    clear z0 zi zn
                    go_loopw [13, 101] (fun fd j wr => ∃ (k : Nat) (bb : Bool), k ≤ A.m ∧ j = .int .i64 k ∧ fd = .bool bb ∧ (bb = false → ∀ y, y < k → ¬ (A.s y = qi ∧ A.t y = qn)) ∧ Below w.heap.size w wr ∧ Below w5.heap.size w5 wr) (fun _ j _ => A.m - (intOf j).toNat)
                    case atStart => exact ⟨0, false, Nat.zero_le _, rfl, rfl, (fun _ y hy => absurd hy (Nat.not_lt_zero _)), BO.out, BO'.out⟩
                    case round =>
                      clear BO BO' HB HB'
                      obtain ⟨k, bb, hk, rfl, rfl, hno, hb, hb'⟩ := hrel
                      have HB := Lib.hid hb; have HB' := Lib.hid hb'; have NO := Lib.hid hno
                      clear hb hb' hno
                      by_cases hlk : k < A.m
                      · obtain ⟨b, off, rfl, hbB, hcell⟩ := HR.out (by omega)
                        have q0 : wr.cell? ⟨b, off + k * 2, none⟩ = some (.int .i64 (A.s k)) := by rw [HB.out.cell (p := ⟨b, off + k * 2, none⟩) hbB]; exact (hcell k hlk).1
                        have q1 : wr.cell? ⟨b, off + k * 2 + 1, none⟩ = some (.int .i64 (A.t k)) := by rw [HB.out.cell (p := ⟨b, off + k * 2 + 1, none⟩) hbB]; exact (hcell k hlk).2
                        have HB3 := Lib.hid (HB.out.alloc HB.out.size (.cells #[.int .i64 (A.s k), .int .i64 (A.t k)] 42))
                        have HB3' := Lib.hid (HB'.out.alloc HB'.out.size (.cells #[.int .i64 (A.s k), .int .i64 (A.t k)] 42))
                        have GA := Lib.hid (Bk.new wr 42 #[.int .i64 (A.s k), .int .i64 (A.t k)])
                        have NX := Lib.hid (fun (hq : ¬ (A.s k = qi ∧ A.t k = qn)) (hb : bb = false) y (hy : y < k + 1) => show ¬ (A.s y = qi ∧ A.t y = qn) by
                          rcases Nat.lt_or_ge y k with h1 | h1
                          · exact NO.out hb y h1
                          · obtain rfl : y = k := by omega
                            exact hq)
                        clear hcell NO
                        generalize A.s k = sk at *
                        generalize A.t k = tk at *
                        go_wp2_with fail
                        have y0 := GA.out.cell 0; have y1 := GA.out.cell 1
                        simp only [List.getElem?_toArray, List.getElem?_cons_zero, List.getElem?_cons_succ] at y0 y1
                        have zi : (wr.alloc (.cells #[.int .i64 (sk : Nat), .int .i64 (tk : Nat)] 42)).cell? ⟨g5, o5 + i, none⟩ = some (.int .i64 (qi : Nat)) := by
                          rw [HB3'.out.cell (p := ⟨g5, o5 + i, none⟩) l5]; exact ZI.out
                        clear GA q0 q1
                        generalize (wr.alloc (.cells #[.int .i64 (sk : Nat), .int .i64 (tk : Nat)] 42)) = wa at *
                        rcases bb with _ | _
                        · by_cases h1 : sk = qi
                          · subst h1
                            by_cases h2 : tk = qn
                            · subst h2
                              clear NX
                              go_wp2_with fail
                              go_region
                              go_wp2
                              go_roundw
                              case rel => exact ⟨k + 1, true, by omega, by go_num, rfl, (fun h => by cases h), HB3.out.drew, HB3'.out.drew⟩
                              case measure => simp [intOf]; omega
                            · have NX1 := Lib.hid (NX.out (fun h => h2 h.2) rfl)
                              have h3 : ((tk : Int) == (qn : Int)) = false := by simp; omega
                              have h4 : ¬ ((tk : Int) = (qn : Int)) := by omega
                              clear NX
                              go_wp2_with fail
                              go_region
                              go_wp2
                              go_roundw
                              case rel => exact ⟨k + 1, false, by omega, by go_num, rfl, (fun _ => NX1.out), HB3.out.drew, HB3'.out.drew⟩
                              case measure => simp [intOf]; omega
                          · have NX1 := Lib.hid (NX.out (fun h => h1 h.1) rfl)
                            have h3 : ((sk : Int) == (qi : Int)) = false := by simp; omega
                            have h4 : ¬ ((sk : Int) = (qi : Int)) := by omega
                            clear NX
                            go_wp2_with fail
                            go_region
                            go_wp2
                            go_roundw
                            case rel => exact ⟨k + 1, false, by omega, by go_num, rfl, (fun _ => NX1.out), HB3.out.drew, HB3'.out.drew⟩
                            case measure => simp [intOf]; omega
                        · clear NX
                          go_wp2_with fail
                          go_region
                          go_wp2
                          go_roundw
                          case rel => exact ⟨k + 1, true, by omega, by go_num, rfl, (fun h => by cases h), HB3.out.drew, HB3'.out.drew⟩
                          case measure => simp [intOf]; omega
                      · obtain rfl : bb = true := by
                          rcases bb with _ | _
                          · obtain ⟨f1, f2, f3⟩ := IDX.out
                            exact absurd ⟨f2, f3⟩ (NO.out rfl idx (by omega))
                          · rfl
                        clear NO
                        have z0 : wr.cell? ⟨g5, o5, none⟩ = some (.int .i64 (x : Nat)) := by
                          rw [HB'.out.cell (p := ⟨g5, o5, none⟩) l5]; exact Z0.out
                        go_wp2
                        go_roundw
                        case rel => exact ⟨i + 1, by omega, by go_num, HB.out, HB'.out⟩
                        case measure => simp [intOf]; omega
                · go_wp2
                  go_roundw
                  case rel => exact ⟨x + 1, by omega, by go_num, HB.out, below_then B5'.out HB'.out B5'.out.size⟩
                  case measure => simp [intOf]; omega
          · go_wp2
            go_ret
            exact ⟨rfl, HB.out⟩
      · exact absurd ⟨rfl, fun i _ => rfl⟩ hno

theorem walk_WaitsFinds (n : Int) (va : Value) (qa : Slq) (w : World) (h0 : -9223372036854775808 ≤ n) (h1 : n ≤ 9223372036854775807) (ha : va = .slice qa.a qa.len qa.cap ∧ qa.len ≤ qa.cap ∧ ∃ s t, ArcI w w.heap.size va qa.len s t) :
    Calls Try.prog 5 #[.int .i64 n, va] w fun e w' => e = .returned (.bool true) ∧ Below w.heap.size w w' := by
  obtain ⟨hv, hc, s, t, ha⟩ := ha
  by_cases hf : Fine n qa.len s t
  · have hin := hf.inn
    have har := hf.arcs ha
    have h64 := hf.2.1
    obtain ⟨k, rfl⟩ := Int.eq_ofNat_of_zero_le hf.1
    rw [Int.toNat_natCast] at hin
    exact finds_good k va _ w (by omega) har hin
  · exact finds_bad n va qa.len s t w h0 h1 ha hf
end Go.Proofs.Ytehifnkpmhbimaa
