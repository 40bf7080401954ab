/- LocksAlone. -/
import Derived.Test.YtnpnpkaklamboaaDoorLkCl
set_option linter.unusedVariables false
set_option linter.unusedSimpArgs false
namespace Go.Proofs.YtnpnpkaklamboaaDoor
open Go.RowKit Go.Shelf

theorem tab_LocksAlone (W : World) (h : W.cell? ⟨0, 0, none⟩ = some (.int .i64 0) ∧ W.cell? ⟨0, 1, none⟩ = some (.int .i64 1) ∧ W.cell? ⟨0, 2, none⟩ = some (.int .i64 3) ∧
    W.cell? ⟨0, 3, none⟩ = some (.int .i64 5) ∧ W.cell? ⟨0, 4, none⟩ = some (.int .i64 7) ∧ W.cell? ⟨0, 5, none⟩ = some (.int .i64 13) ∧ W.cell? ⟨0, 6, none⟩ = some (.int .i64 31)) : Tab W := tab_of W h
theorem L1.mono {w0 w : World} {S : Nat → Prop} {t k : Nat} {T : Tbl} (h : L1 w0 S w t k T) {m : Nat} (hm : k ≤ m) : L1 w0 S w t m T := by
  obtain ⟨F, h1, h2, h3⟩ := h.lt
  exact ⟨⟨F, h1.mono hm, h2, h3⟩, h.kp⟩
def aq (m : Nat) : Que := ⟨[⟨7, m, 0⟩], [], []⟩
/-- One transaction alone. -/
def AL (T : Tbl) : Prop := (∀ n q, T.qs n = some q → ∃ m, m ≤ 6 ∧ q = aq m) ∧ ∀ y, T.wt y = none
theorem jn_zero : ∀ m : Fin 7, Md.join 0 m.val = m.val := by decide +kernel
theorem al_ask {T : Tbl} (h : AL T) (n : Nm) {m : Nat} (hm : m ≤ 6) : T.mode 7 n ≤ 6 ∧ ((T.q n).ask cpN jnN 7 m).2 = true ∧ AL (T.asked cpN jnN 7 n m) ∧ (((T.asked cpN jnN 7 n m).mode 7 n : Nat) : Int) = Md.join (T.mode 7 n : Int) (m : Int) := by
  have key : ∃ m', m' ≤ 6 ∧ T.mode 7 n ≤ 6 ∧ (T.q n).ask cpN jnN 7 m = (aq m', true) ∧ ((m' : Nat) : Int) = Md.join (T.mode 7 n : Int) (m : Int) := by
    cases e : T.qs n with
    | none =>
      have z : T.mode 7 n = 0 := by unfold Tbl.mode; rw [Tbl.q_none e]; rfl
      rw [z, Tbl.q_none e]
      exact ⟨m, hm, Nat.zero_le _, rfl, (jn_zero ⟨m, by omega⟩).symm⟩
    | some q =>
      obtain ⟨k, hk, rfl⟩ := h.1 n q e
      have z : T.mode 7 n = k := by unfold Tbl.mode; rw [Tbl.q_some e]; rfl
      rw [z, Tbl.q_some e]
      refine ⟨jnN k m, jnN_le hk hm, hk, ?_, jnN_eq hk hm⟩
      unfold Que.ask
      have g : getH 7 (aq k).hs = some ⟨7, k, 0⟩ := rfl
      rw [g]
      dsimp only
      rw [if_pos (.inr rfl)]
      rfl
  obtain ⟨m', h1, h2, h3, h4⟩ := key
  refine ⟨h2, by rw [h3], ⟨fun k q hq => ?_, fun y => ?_⟩, ?_⟩
  · unfold Tbl.asked at hq
    dsimp only at hq
    rw [h3] at hq
    split at hq
    · injection hq with hq
      exact ⟨m', h1, hq.symm⟩
    · exact h.1 k q hq
  · unfold Tbl.asked
    dsimp only
    rw [h3, if_neg (fun e => by cases e.2)]
    exact h.2 y
  · have : (T.asked cpN jnN 7 n m).mode 7 n = m' := by
      unfold Tbl.mode
      rw [Tbl.asked_q, if_pos rfl, h3]
      rfl
    rw [this, h4]
theorem al_rel {T : Tbl} (h : AL T) : ∀ n, (T.release cpN 7).qs n = none := fun n => by
  unfold Tbl.release
  dsimp only
  cases e : T.qs n with
  | none => rfl
  | some q =>
    obtain ⟨k, hk, rfl⟩ := h.1 n q e
    dsimp only
    have hh : (aq k).has 7 := .inl ⟨_, List.mem_cons_self, rfl⟩
    have r : (aq k).rel cpN 7 = (⟨[], [], []⟩, []) := by
      unfold Que.rel
      rw [if_pos hh]
      rfl
    rw [r, if_pos ⟨hh, rfl, rfl⟩]
theorem al_arcs {T : Tbl} (h : ∀ n, T.qs n = none) {A : List (Int × Int)} (hA : T.arcsOf A) : A = [] := by
  cases A with
  | nil => rfl
  | cons p l =>
    obtain ⟨n, q, h1, _⟩ := (hA.2 p).1 List.mem_cons_self
    rw [h n] at h1
    cases h1
set_option maxRecDepth 100000 in
set_option maxHeartbeats 8000000 in
theorem walk_LocksAlone (v0 : Value) (l : List Cl) (W : World) (hT : Tab W) (h0 : ClAt W W.heap.size v0 l) :
    Calls Tryd.prog 5 #[v0] W fun e w' => e = .returned (.bool true) ∧ Below W.heap.size W w' := by
  have IN := Lib.hid h0
  obtain ⟨⟨a, cp, rfl, hat⟩, hlen, hbd⟩ := h0
  have AT := Lib.hid hat
  have BD := Lib.hid hbd
  obtain ⟨N, hN⟩ : ∃ N, N = l.length := ⟨_, rfl⟩
  have NE := Lib.hid hN
  have N63 : N ≤ 9223372036854775807 := by unfold maxLen at hlen; omega
  rw [← hN]
  have T0 := Lib.hid hT
  clear hT hat hbd hlen hN
  go_enter Tryd.func5, Tryd.ntmps5
  have CA := Lib.hid (awake_any T0.out)
  go_wp2_with fail
  refine CA.out.mono ?_
  rintro e w3 ⟨rfl, hb⟩
  have TB := Lib.hid (T0.out.below hb)
  have B := Lib.hid hb
  clear T0 CA hb
  have C0 := Lib.hid (l1_new TB.out)
  go_wp2_with fail
  refine C0.out.mono ?_
  rintro e w4 ⟨t, rfl, hL⟩
  have M0 := Lib.hid hL
  have A0 := Lib.hid (show AL Tbl.nil from ⟨fun n q h => (by cases h), fun y => rfl⟩)
  clear C0 hL
  as_aux_lemma =>
    go_wp2_with fail
    go_loopw [14] (fun s14 wr => ∃ (i : Nat) (T : Tbl), s14 = .int .i64 (i : Int) ∧ i ≤ N ∧ i ≤ 200 ∧ Hid (L1 w3 (fun _ => False) wr t i T ∧ AL T)) (fun s14 _ => N - (intOf s14).toNat)
    case atStart => exact ⟨0, _, rfl, Nat.zero_le _, Nat.zero_le _, Lib.hid ⟨M0.out, A0.out⟩⟩
    case round =>
      clear M0 A0
      obtain ⟨i, T, rfl, hiN, hi2, hI⟩ := hrel
      by_cases hlt : i < N
      · have HLT := Lib.hid hlt
        have IW := Lib.hid (IN.out.below (below_then B.out hI.out.1.kp B.out.size))
        obtain ⟨⟨a', cp', ha, hat⟩, -, -⟩ := IW.out
        obtain ⟨rfl, rfl⟩ : a = a' ∧ cp = cp' := by
          have h := ha
          rw [← NE.out] at h
          simpa using h
        obtain ⟨b, off, rfl, -, hR⟩ := hat i (by rw [← NE.out]; exact hlt)
        obtain ⟨c, hc⟩ : ∃ c, c = l[i]'(by rw [← NE.out]; exact hlt) := ⟨_, rfl⟩
        rw [← hc] at hR
        have RG := Lib.hid hR
        have CI := Lib.hid (show c.in_ from BD.out c (by rw [hc]; exact List.getElem_mem _))
        clear hat hR hc ha IW
        obtain ⟨x, ⟨s, tt⟩, m⟩ := c
        go_upto_region 7 with (first | (refine load_cl rfl _ rfl b (off + i * 4) ⟨x, ⟨s, tt⟩, m⟩ rfl RG.out ?_))
        obtain ⟨K, hK⟩ : ∃ K, K = wr.heap.size := ⟨_, rfl⟩
        have KN := Lib.hid (show Bk (wr.alloc (.cells #[.int .i64 x, .int .i64 s, .string tt, .int .i64 m] 29)) K 29 #[.int .i64 x, .int .i64 s, .string tt, .int .i64 m] from by rw [hK]; exact Bk.new wr _ _)
        have M1 := Lib.hid (show L1 w3 (fun i => i = K) (wr.alloc (.cells #[.int .i64 x, .int .i64 s, .string tt, .int .i64 m] 29)) t i T from (hI.out.1.alloc _).sub fun i hi => .inr (by rw [hi, hK]))
        have A1 := Lib.hid hI.out.2
        rw [← hK]
        clear hI hK RG
        generalize wr.alloc (.cells #[.int .i64 x, .int .i64 s, .string tt, .int .i64 m] 29) = w5 at *
        by_cases h200 : i = 200
        · subst h200
          have CR := Lib.hid (l1_rel M1.out (by omega) 7 (by decide))
          have EN := Lib.hid (al_rel A1.out)
          as_aux_lemma =>
            go_wp2_with fail
            refine CR.out.mono ?_
            rintro e w6 ⟨rfl, hL, -⟩
            have R1 := Lib.hid hL
            have CN := Lib.hid (l1_all0 R1.out EN.out)
            clear CR hL
            as_aux_lemma =>
              go_wp2_with fail
              refine CN.out.mono ?_
              rintro e w7 ⟨rfl, hb⟩
              have R2 := Lib.hid (R1.out.kept hb)
              have CX := Lib.hid (l1_arcs R2.out (by omega))
              clear CN hb R1
              as_aux_lemma =>
                go_wp2_with fail
                refine CX.out.mono ?_
                rintro e w8 ⟨va, A, rfl, hA, -, hr, hb⟩
                obtain rfl := al_arcs EN.out hA
                obtain ⟨ra, rc, rfl⟩ := hr.slice
                have BE := Lib.hid (below_then B.out (below_then R2.out.kp hb R2.out.kp.size) B.out.size)
                clear CX hA hr hb
                go_wp2
                go_ret
                exact ⟨rfl, BE.out⟩
        · have h200' : ((i : Int) == 200) = false := beq_eq_false_iff_ne.2 (by omega)
          have h200'' : ¬ ((i : Int) = 200) := by omega
          have i199 : i ≤ 199 := by omega
          clear hi2 h200
          have k1 : w5.cell? ⟨K, 1, none⟩ = some (.int .i64 s) := KN.out.cell 1
          have k2 : w5.cell? ⟨K, 2, none⟩ = some (.string tt) := KN.out.cell 2
          have C1 := Lib.hid (l1_mode M1.out (by omega) 7 ⟨s, tt⟩ CI.out.n)
          as_aux_lemma =>
            go_wp2_with fail
            refine C1.out.mono ?_
            rintro e w6 ⟨rfl, hb⟩
            have M2 := Lib.hid (M1.out.kept hb)
            have KN2 := Lib.hid (KN.out.kept hb)
            clear C1 M1 KN hb k1 k2
            have k1 : w6.cell? ⟨K, 1, none⟩ = some (.int .i64 s) := KN2.out.cell 1
            have k2 : w6.cell? ⟨K, 2, none⟩ = some (.string tt) := KN2.out.cell 2
            have k3 : w6.cell? ⟨K, 3, none⟩ = some (.int .i64 m) := KN2.out.cell 3
            by_cases hm : m ≤ 0 ∨ 6 < m
            · have C1 := Lib.hid (l1_arg M2.out 7 m ⟨s, tt⟩ hm)
              as_aux_lemma =>
                go_wp2_with fail
                refine C1.out.mono ?_
                rintro e w7 ⟨rfl, hL, hs⟩
                have M3 := Lib.hid (hL.mono (Nat.le_succ i))
                have KN3 := Lib.hid (hs.bk rfl KN2.out)
                clear C1 M2 KN2 hL hs k1 k2 k3
                have k3 : w7.cell? ⟨K, 3, none⟩ = some (.int .i64 m) := KN3.out.cell 3
                rcases hm with hm | hm
                · have hm1 : m < 1 := by omega
                  go_wp2
                  go_roundw
                  case rel => exact ⟨i + 1, _, by go_num, by have := HLT.out; omega, by omega, Lib.hid ⟨M3.out.sub (fun i h => h.elim), A1.out⟩⟩
                  case measure => have := HLT.out; simp [intOf]; omega
                · have hm1 : ¬ (m < 1) := by omega
                  go_wp2
                  go_roundw
                  case rel => exact ⟨i + 1, _, by go_num, by have := HLT.out; omega, by omega, Lib.hid ⟨M3.out.sub (fun i h => h.elim), A1.out⟩⟩
                  case measure => have := HLT.out; simp [intOf]; omega
            · obtain ⟨m, rfl⟩ : ∃ k : Nat, m = k := ⟨m.toNat, by omega⟩
              have m0 : 0 < m := by omega
              have m6 : m ≤ 6 := by omega
              have hm1 : ¬ ((m : Int) < 1) := by omega
              have hm6 : ¬ ((6 : Int) < (m : Int)) := by omega
              have AK := Lib.hid (al_ask A1.out ⟨s, tt⟩ m6)
              have C1 := Lib.hid (l1_ask M2.out (by omega) 7 (by decide) ⟨s, tt⟩ CI.out.n m m0 m6 (A1.out.2 7))
              rw [AK.out.2.1] at C1
              clear hm
              as_aux_lemma =>
                go_wp2_with fail
                refine C1.out.mono ?_
                rintro e w7 ⟨rfl, hL, hs⟩
                obtain ⟨T2, hT2⟩ : ∃ T2, T2 = T.asked cpN jnN 7 ⟨s, tt⟩ m := ⟨_, rfl⟩
                obtain ⟨bf, hbf⟩ : ∃ bf, bf = T.mode 7 ⟨s, tt⟩ := ⟨_, rfl⟩
                rw [← hT2] at hL
                have M3 := Lib.hid hL
                have A3 := Lib.hid (show AL T2 by rw [hT2]; exact AK.out.2.2.1)
                have MD := Lib.hid (show ((T2.mode 7 ⟨s, tt⟩ : Nat) : Int) = Md.join (bf : Int) (m : Int) by rw [hT2, hbf]; exact AK.out.2.2.2)
                have KN3 := Lib.hid (hs.bk rfl KN2.out)
                have TT := Lib.hid (TB.out.below M3.out.kp)
                rw [← hbf]
                clear C1 M2 KN2 hL hs k1 k2 k3 AK hT2 hbf A1
                have x3 : w7.cell? ⟨K, 3, none⟩ = some (.int .i64 (m : Int)) := KN3.out.cell 3
                have k1 := fun x : Kp w7 => show x.1.cell? ⟨K, 1, none⟩ = some (.int .i64 s) from x.cell (KN3.out.cell 1)
                have k2 := fun x : Kp w7 => show x.1.cell? ⟨K, 2, none⟩ = some (.string tt) from x.cell (KN3.out.cell 2)
                have k3 := fun x : Kp w7 => show x.1.cell? ⟨K, 3, none⟩ = some (.int .i64 (m : Int)) from x.cell (KN3.out.cell 3)
                obtain ⟨J, hJ⟩ : ∃ J, J = Md.join (bf : Int) (m : Int) := ⟨_, rfl⟩
                have C1 := Lib.hid (fun x : Kp w7 => l1_mode (M3.out.kept x.2) (by omega) 7 ⟨s, tt⟩ CI.out.n)
                have C2 := Lib.hid (fun x : Kp w7 => join_any (bf : Int) (m : Int) x.1 (TT.out.below x.2))
                have C3 := Lib.hid (fun x : Kp w7 => l1_wait (M3.out.kept x.2) 7 (by decide))
                rw [← hJ] at C2 MD
                rw [MD.out] at C1
                rw [A3.out.2 7] at C3
                clear hJ
                as_aux_lemma =>
                  go_upto_region 13 with fail
                  refine wp_region_kept (by kernel_rfl) (by kernel_rfl) ?_
                  iterate 11 (first
                    | go_big_quiet_skip
                    | (go_big_quiet_want; go_big_quiet_op; first | go_big_quiet_on | go_big_quiet_call (exact kp_call (C1.out _))))
                  iterate 4 (first
                    | go_big_quiet_skip
                    | (go_big_quiet_want; go_big_quiet_op; first | go_big_quiet_on | go_big_quiet_call (exact kp_call (C2.out _))))
                  iterate 6 (first
                    | go_big_quiet_skip
                    | (go_big_quiet_want; go_big_quiet_op; first | go_big_quiet_on | go_big_quiet_call (exact kp_call (C3.out _))))
                  refine wpQuiet_nil ?_
                  rintro _ ⟨xw, rfl⟩
                  have M4 := Lib.hid (M3.out.kept xw.2)
                  clear k1 k2 k3 C1 C2 C3 M3 KN3 TT x3
                  generalize xw.1 = w8 at M4 ⊢
                  clear xw
                  go_wp2
                  go_roundw
                  case rel => exact ⟨i + 1, _, by go_num, by have := HLT.out; omega, by omega, Lib.hid ⟨M4.out.sub (fun i h => h.elim), A3.out⟩⟩
                  case measure => have := HLT.out; simp [intOf]; omega
      · obtain rfl : N = i := by omega
        have M1 := Lib.hid hI.out.1
        have A1 := Lib.hid hI.out.2
        clear hI hlt
        have CR := Lib.hid (l1_rel M1.out (by omega) 7 (by decide))
        have EN := Lib.hid (al_rel A1.out)
        as_aux_lemma =>
          go_wp2_with fail
          refine CR.out.mono ?_
          rintro e w6 ⟨rfl, hL, -⟩
          have R1 := Lib.hid hL
          have CN := Lib.hid (l1_all0 R1.out EN.out)
          clear CR hL
          as_aux_lemma =>
            go_wp2_with fail
            refine CN.out.mono ?_
            rintro e w7 ⟨rfl, hb⟩
            have R2 := Lib.hid (R1.out.kept hb)
            have CX := Lib.hid (l1_arcs R2.out (by omega))
            clear CN hb R1
            as_aux_lemma =>
              go_wp2_with fail
              refine CX.out.mono ?_
              rintro e w8 ⟨va, A, rfl, hA, -, hr, hb⟩
              obtain rfl := al_arcs EN.out hA
              obtain ⟨ra, rc, rfl⟩ := hr.slice
              have BE := Lib.hid (below_then B.out (below_then R2.out.kp hb R2.out.kp.size) B.out.size)
              clear CX hA hr hb
              go_wp2
              go_ret
              exact ⟨rfl, BE.out⟩
end Go.Proofs.YtnpnpkaklamboaaDoor
