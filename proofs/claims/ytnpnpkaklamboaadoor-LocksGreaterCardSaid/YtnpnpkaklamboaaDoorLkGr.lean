/- LocksGreater. -/
import Derived.Test.YtnpnpkaklamboaaDoorLkRd
set_option linter.unusedVariables false
set_option linter.unusedSimpArgs false
namespace Go.Proofs.YtnpnpkaklamboaaDoor
open Go.RowKit Go.Shelf

@[reducible] def Tab7 (W : World) : Prop := W.cell? ⟨0, 0, none⟩ = some (.int .i64 0) ∧ W.cell? ⟨0, 1, none⟩ = some (.int .i64 1) ∧ W.cell? ⟨0, 2, none⟩ = some (.int .i64 3) ∧
    W.cell? ⟨0, 3, none⟩ = some (.int .i64 5) ∧ W.cell? ⟨0, 4, none⟩ = some (.int .i64 7) ∧ W.cell? ⟨0, 5, none⟩ = some (.int .i64 13) ∧ W.cell? ⟨0, 6, none⟩ = some (.int .i64 31)
theorem tab_LocksGreater (W : World) (h : Tab7 W) : Tab W := tab_of W h
/-- One who holds alone asks again; another asks; the one goes. -/
theorem gr_mode {a b : Nat} (n : Nm) : ((Tbl.nil.asked cpN jnN 1 n a).asked cpN jnN 1 n b).q n = ⟨[⟨1, jnN a b, 0⟩], [], []⟩ ∧ (((Tbl.nil.asked cpN jnN 1 n a).q n).ask cpN jnN 1 b).2 = true ∧ (Tbl.nil.asked cpN jnN 1 n a).q n = ⟨[⟨1, a, 0⟩], [], []⟩ := by
  have e1 : (Tbl.nil.asked cpN jnN 1 n a).q n = ⟨[⟨1, a, 0⟩], [], []⟩ := by rw [Tbl.asked_q, if_pos rfl]; rfl
  have e2 : (Que.mk [⟨1, a, 0⟩] [] []).ask cpN jnN 1 b = (⟨[⟨1, jnN a b, 0⟩], [], []⟩, true) := by
    unfold Que.ask
    have g : getH 1 [(⟨1, a, 0⟩ : Hold)] = some ⟨1, a, 0⟩ := rfl
    dsimp only
    rw [g]
    dsimp only
    rw [if_pos (.inr rfl)]
    rfl
  exact ⟨by rw [Tbl.asked_q, if_pos rfl, e1, e2], by rw [e1, e2], e1⟩
theorem gr_wt {a b : Nat} (n : Nm) : (Tbl.nil.asked cpN jnN 1 n a).wt 1 = none ∧ ((Tbl.nil.asked cpN jnN 1 n a).asked cpN jnN 1 n b).wt 2 = none := by
  constructor
  · unfold Tbl.asked
    dsimp only
    rw [if_neg]
    · rfl
    · rintro ⟨_, h⟩
      cases h
  · unfold Tbl.asked
    dsimp only
    rw [if_neg (by rintro ⟨h, _⟩; exact absurd h (by decide)), if_neg (by rintro ⟨h, _⟩; exact absurd h (by decide))]
    rfl
theorem gr_ask {T : Tbl} {n : Nm} {j c : Nat} (h : T.q n = ⟨[⟨1, j, 0⟩], [], []⟩) : (cpN c j = true → (T.q n).ask cpN jnN 2 c = (⟨[⟨1, j, 0⟩, ⟨2, c, 0⟩], [], []⟩, true)) ∧ (cpN c j = false → (T.q n).ask cpN jnN 2 c = (⟨[⟨1, j, 0⟩], [], [(2, c)]⟩, false)) := by
  rw [h]
  unfold Que.ask
  have g : getH 2 [(⟨1, j, 0⟩ : Hold)] = none := rfl
  dsimp only
  rw [g]
  dsimp only
  have f : (Que.mk [⟨1, j, 0⟩] [] []).free cpN 2 c = cpN c j := by
    unfold Que.free
    simp
  rw [f]
  exact ⟨fun e => by rw [if_pos ⟨rfl, rfl, e⟩]; rfl, fun e => by rw [if_neg (by rw [e]; simp)]; rfl⟩
theorem gr_rel {T : Tbl} (h : T.ok cpN) {n : Nm} {j c : Nat} (hq : T.q n = ⟨[⟨1, j, 0⟩, ⟨2, c, 0⟩], [], []⟩ ∨ T.q n = ⟨[⟨1, j, 0⟩], [], [(2, c)]⟩) : (T.release cpN 1).mode 2 n = c ∧ ∀ k, (T.release cpN 1).wt 2 ≠ some k ∨ k ≠ n := by
  have e : (T.release cpN 1).q n = ⟨[⟨2, c, 0⟩], [], []⟩ := by
    rw [Tbl.release_q lawN.sy h]
    unfold Que.rel
    rcases hq with hq | hq
    · rw [hq, if_pos (.inl ⟨_, List.mem_cons_self, rfl⟩)]
      rfl
    · rw [hq, if_pos (.inl ⟨_, List.mem_cons_self, rfl⟩)]
      rfl
  refine ⟨by unfold Tbl.mode; rw [e]; rfl, fun k => ?_⟩
  by_cases ek : k = n
  · refine .inl fun hw => ?_
    subst ek
    have := ((h.release lawN.sy 1).w 2 k).1 hw
    rw [e] at this
    rcases this with h | ⟨p, hp, _⟩
    · cases h
    · cases hp
  · exact .inr ek
theorem gr_wt2 {T : Tbl} {x : Int} {n : Nm} {c : Nat} (hx : T.wt x = none) : (T.asked cpN jnN x n c).wt x = if ((T.q n).ask cpN jnN x c).2 = false then some n else none := by
  unfold Tbl.asked
  dsimp only
  by_cases e : ((T.q n).ask cpN jnN x c).2 = false
  · rw [if_pos ⟨rfl, e⟩, if_pos e]
  · rw [if_neg (fun h => e h.2), if_neg e, hx]
theorem rel_wt {T : Tbl} {x y : Int} {n : Nm} (h : T.wt y = none ∨ T.wt y = some n) : (T.release cpN x).wt y = none ∨ (T.release cpN x).wt y = some n := by
  unfold Tbl.release
  dsimp only
  split
  · exact .inl rfl
  · exact h
set_option maxRecDepth 100000 in
set_option maxHeartbeats 8000000 in
theorem walk_LocksGreater (v0 : Value) (x : Int × Int × Int) (v1 : Value) (n : Nm) (W : World) (hT : Tab W) (h0 : IsThree v0 x) (h1 : IsNm v1 n) :
    Calls Tryd.prog 8 #[v0, v1] W fun e w' => e = .returned (.bool true) ∧ Below W.heap.size W w' := by
  obtain ⟨rfl, ha, hb, hc⟩ := h0
  obtain ⟨rfl, hn⟩ := h1
  obtain ⟨a, b, c⟩ := x
  obtain ⟨s, tt⟩ := n
  dsimp only at ha hb hc ⊢
  have B0 := Lib.hid (((Below.refl W.heap.size W).alloc (Nat.le_refl _) (.cells #[.int .i64 a, .int .i64 b, .int .i64 c] 49)).alloc (by simp) (.cells #[.int .i64 s, .string tt] 27))
  have KA := Lib.hid ((Bk.new W 49 #[.int .i64 a, .int .i64 b, .int .i64 c]).alloc (.cells #[.int .i64 s, .string tt] 27))
  have KN := Lib.hid (show Bk ((W.alloc (.cells #[.int .i64 a, .int .i64 b, .int .i64 c] 49)).alloc (.cells #[.int .i64 s, .string tt] 27)) (W.heap.size + 1) 27 #[.int .i64 s, .string tt] from by
    have := Bk.new (W.alloc (.cells #[.int .i64 a, .int .i64 b, .int .i64 c] 49)) 27 #[.int .i64 s, .string tt]
    rwa [World.size_alloc] at this)
  have T0 := Lib.hid (hT.below B0.out)
  obtain ⟨K, hK⟩ : ∃ K, K = W.heap.size := ⟨_, rfl⟩
  have HK := Lib.hid hK
  rw [← hK] at KA KN
  have HN := Lib.hid hn
  clear hT hK hn
  go_enter Tryd.func8, Tryd.ntmps8
  go_upto_region 1 with fail
  rw [← HK.out]
  generalize (W.alloc (.cells #[.int .i64 a, .int .i64 b, .int .i64 c] 49)).alloc (.cells #[.int .i64 s, .string tt] 27) = w1 at *
  have z0 : w1.cell? ⟨K, 0, none⟩ = some (.int .i64 a) := KA.out.cell 0
  have z1 : w1.cell? ⟨K, 1, none⟩ = some (.int .i64 b) := KA.out.cell 1
  have z2 : w1.cell? ⟨K, 2, none⟩ = some (.int .i64 c) := KA.out.cell 2
  go_region
  have TD := Lib.hid (show Tab w1.drew from T0.out.below ((Below.refl _ w1).drew))
  have BD := Lib.hid (show Below W.heap.size W w1.drew from B0.out.drew)
  have KD := Lib.hid (show Bk w1.drew (K + 1) 27 #[.int .i64 s, .string tt] from KN.out)
  have CA := Lib.hid (awake_any TD.out)
  clear z0 z1 z2 T0 B0 KN KA
  generalize w1.drew = w2 at *
  go_wp2_with fail
  refine CA.out.mono ?_
  rintro e w3 ⟨rfl, hb⟩
  have TB := Lib.hid (TD.out.below hb)
  have B := Lib.hid (below_then BD.out hb BD.out.size)
  have KB := Lib.hid (KD.out.kept hb)
  clear TD BD KD CA hb
  by_cases h1 : a < 1
  · go_wp2
    go_ret
    exact ⟨rfl, B.out⟩
  by_cases h2 : 6 < a
  · go_wp2
    go_ret
    exact ⟨rfl, B.out⟩
  by_cases h3 : b < 1
  · go_wp2
    go_ret
    exact ⟨rfl, B.out⟩
  by_cases h4 : 6 < b
  · go_wp2
    go_ret
    exact ⟨rfl, B.out⟩
  by_cases h5 : c < 1
  · go_wp2
    go_ret
    exact ⟨rfl, B.out⟩
  by_cases h6 : 6 < c
  · go_wp2
    go_ret
    exact ⟨rfl, B.out⟩
  have C0 := Lib.hid (l1_new TB.out)
  as_aux_lemma =>
    go_wp2_with fail
    refine C0.out.mono ?_
    rintro e w4 ⟨t, rfl, hL⟩
    obtain ⟨a, rfl⟩ : ∃ k : Nat, a = k := ⟨a.toNat, by omega⟩
    obtain ⟨b, rfl⟩ : ∃ k : Nat, b = k := ⟨b.toNat, by omega⟩
    obtain ⟨c, rfl⟩ : ∃ k : Nat, c = k := ⟨c.toNat, by omega⟩
    have M0 := Lib.hid hL
    have G1 := Lib.hid (gr_mode (a := a) (b := b) ⟨s, tt⟩)
    have G2 := Lib.hid (gr_wt (a := a) (b := b) ⟨s, tt⟩)
    have A6 := Lib.hid (show 0 < a ∧ a ≤ 6 ∧ 0 < b ∧ b ≤ 6 ∧ 0 < c ∧ c ≤ 6 by omega)
    clear C0 hL h1 h2 h3 h4 h5 h6
    have n0 : w4.cell? ⟨K + 1, 0, none⟩ = some (.int .i64 s) := (KB.out.kept M0.out.kp).cell 0
    have n1 : w4.cell? ⟨K + 1, 1, none⟩ = some (.string tt) := (KB.out.kept M0.out.kp).cell 1
    have C1 := Lib.hid (l1_ask M0.out (by decide) 1 (by decide) ⟨s, tt⟩ HN.out a A6.out.1 A6.out.2.1 rfl)
    rw [show ((Tbl.nil.q ⟨s, tt⟩).ask cpN jnN 1 a).2 = true from rfl] at C1
    as_aux_lemma =>
      go_wp2_with fail
      refine C1.out.mono ?_
      rintro e w5 ⟨rfl, hL, -⟩
      have M1 := Lib.hid hL
      clear C1 M0 hL n0 n1
      have n0 : w5.cell? ⟨K + 1, 0, none⟩ = some (.int .i64 s) := (KB.out.kept M1.out.kp).cell 0
      have n1 : w5.cell? ⟨K + 1, 1, none⟩ = some (.string tt) := (KB.out.kept M1.out.kp).cell 1
      have C1 := Lib.hid (l1_ask M1.out (by decide) 1 (by decide) ⟨s, tt⟩ HN.out b A6.out.2.2.1 A6.out.2.2.2.1 G2.out.1)
      rw [G1.out.2.1] at C1
      as_aux_lemma =>
        go_wp2_with fail
        refine C1.out.mono ?_
        rintro e w6 ⟨rfl, hL, -⟩
        obtain ⟨T2, hT2⟩ : ∃ T2, T2 = (Tbl.nil.asked cpN jnN 1 ⟨s, tt⟩ a).asked cpN jnN 1 ⟨s, tt⟩ b := ⟨_, rfl⟩
        obtain ⟨j, hj⟩ : ∃ j, j = jnN a b := ⟨_, rfl⟩
        have Q2 := Lib.hid (show T2.q ⟨s, tt⟩ = ⟨[⟨1, j, 0⟩], [], []⟩ by rw [hT2, hj]; exact G1.out.1)
        have W2 := Lib.hid (show T2.wt 2 = none by rw [hT2]; exact G2.out.2)
        have M2 := Lib.hid (show L1 w3 (fun _ => False) w6 t 2 T2 by rw [hT2]; exact hL)
        have J6 := Lib.hid (show j ≤ 6 by rw [hj]; exact jnN_le A6.out.2.1 A6.out.2.2.2.1)
        have CJ := Lib.hid (join_any (a : Int) (b : Int) w6 (TB.out.below M2.out.kp))
        rw [← jnN_eq A6.out.2.1 A6.out.2.2.2.1, ← hj] at CJ
        clear C1 M1 hL n0 n1 hT2 hj G1 G2
        as_aux_lemma =>
          go_wp2_with fail
          refine CJ.out.mono ?_
          rintro e w7 ⟨rfl, hb⟩
          have M3 := Lib.hid (M2.out.kept hb)
          clear CJ M2 hb
          have n0 : w7.cell? ⟨K + 1, 0, none⟩ = some (.int .i64 s) := (KB.out.kept M3.out.kp).cell 0
          have n1 : w7.cell? ⟨K + 1, 1, none⟩ = some (.string tt) := (KB.out.kept M3.out.kp).cell 1
          have CM := Lib.hid (l1_mode M3.out (by decide) 1 ⟨s, tt⟩ HN.out)
          rw [show T2.mode 1 ⟨s, tt⟩ = j by unfold Tbl.mode; rw [Q2.out]; rfl] at CM
          as_aux_lemma =>
            go_wp2_with fail
            refine CM.out.mono ?_
            rintro e w8 ⟨rfl, hb⟩
            have M4 := Lib.hid (M3.out.kept hb)
            clear CM M3 hb n0 n1
            have n0 : w8.cell? ⟨K + 1, 0, none⟩ = some (.int .i64 s) := (KB.out.kept M4.out.kp).cell 0
            have n1 : w8.cell? ⟨K + 1, 1, none⟩ = some (.string tt) := (KB.out.kept M4.out.kp).cell 1
            have C1 := Lib.hid (l1_ask M4.out (by decide) 2 (by decide) ⟨s, tt⟩ HN.out c A6.out.2.2.2.2.1 A6.out.2.2.2.2.2 W2.out)
            have Q3 := Lib.hid (gr_ask (c := c) Q2.out)
            obtain ⟨z, hz⟩ : ∃ z, z = cpN c j := ⟨_, rfl⟩
            have HZ := Lib.hid hz
            have ZA := Lib.hid (show ((T2.q ⟨s, tt⟩).ask cpN jnN 2 c).2 = z by
              cases z
              · rw [Q3.out.2 hz.symm]
              · rw [Q3.out.1 hz.symm])
            rw [ZA.out] at C1
            clear hz
            as_aux_lemma =>
              go_wp2_with fail
              refine C1.out.mono ?_
              rintro e w9 ⟨rfl, hL, -⟩
              obtain ⟨T3, hT3⟩ : ∃ T3, T3 = T2.asked cpN jnN 2 ⟨s, tt⟩ c := ⟨_, rfl⟩
              have M5 := Lib.hid (show L1 w3 (fun _ => False) w9 t 3 T3 by rw [hT3]; exact hL)
              have Q5 := Lib.hid (show T3.q ⟨s, tt⟩ = ⟨[⟨1, j, 0⟩, ⟨2, c, 0⟩], [], []⟩ ∨ T3.q ⟨s, tt⟩ = ⟨[⟨1, j, 0⟩], [], [(2, c)]⟩ by
                rw [hT3, Tbl.asked_q, if_pos rfl]
                cases z
                · rw [Q3.out.2 HZ.out.symm]; exact .inr rfl
                · rw [Q3.out.1 HZ.out.symm]; exact .inl rfl)
              have W3 := Lib.hid (show T3.wt 2 = if z = false then some ⟨s, tt⟩ else none by rw [hT3, gr_wt2 W2.out, ZA.out])
              have CC := Lib.hid (comp_any (c : Int) (j : Int) w9 (TB.out.below M5.out.kp))
              rw [← cpN_eq A6.out.2.2.2.2.2 J6.out, ← HZ.out] at CC
              clear C1 M4 hL n0 n1 hT3 Q3 ZA W2 Q2
              as_aux_lemma =>
                go_wp2_with fail
                refine CC.out.mono ?_
                rintro e w10 ⟨rfl, hb⟩
                have M6 := Lib.hid (M5.out.kept hb)
                have CW := Lib.hid (l1_wait M6.out 2 (by decide))
                have CV := Lib.hid (show (T3.wt 2).isSome = !z by rw [W3.out]; cases z <;> rfl)
                rw [CV.out] at CW
                have zz : (z != z) = false := by cases z <;> rfl
                clear CC M5 hb
                as_aux_lemma =>
                  go_wp2_with fail
                  refine CW.out.mono ?_
                  rintro e w11 ⟨rfl, hb⟩
                  have M7 := Lib.hid (M6.out.kept hb)
                  have zy : ((!z) == z) = false := by cases z <;> rfl
                  clear CW M6 hb
                  have CR := Lib.hid (l1_rel M7.out (by decide) 1 (by decide))
                  have GR := Lib.hid (gr_rel M7.out.ok Q5.out)
                  as_aux_lemma =>
                    go_wp2_with fail
                    refine CR.out.mono ?_
                    rintro e w12 ⟨rfl, hL, -⟩
                    have M8 := Lib.hid hL
                    have W8 := Lib.hid (show ((T3.release cpN 1).wt 2).isSome = false by
                      have a := rel_wt (T := T3) (x := 1) (y := 2) (n := ⟨s, tt⟩) (by rw [W3.out]; cases z <;> simp)
                      have b := GR.out.2 ⟨s, tt⟩
                      rcases a with a | a
                      · rw [a]; rfl
                      · rcases b with b | b
                        · exact absurd a b
                        · exact absurd rfl b)
                    clear CR M7 hL
                    have n0 : w12.cell? ⟨K + 1, 0, none⟩ = some (.int .i64 s) := (KB.out.kept M8.out.kp).cell 0
                    have n1 : w12.cell? ⟨K + 1, 1, none⟩ = some (.string tt) := (KB.out.kept M8.out.kp).cell 1
                    have CM := Lib.hid (l1_mode M8.out (by decide) 2 ⟨s, tt⟩ HN.out)
                    rw [GR.out.1] at CM
                    as_aux_lemma =>
                      go_wp2_with fail
                      refine CM.out.mono ?_
                      rintro e w13 ⟨rfl, hb⟩
                      have M9 := Lib.hid (M8.out.kept hb)
                      have CW := Lib.hid (l1_wait M9.out 2 (by decide))
                      rw [W8.out] at CW
                      clear CM M8 hb n0 n1
                      as_aux_lemma =>
                        go_wp2_with fail
                        refine CW.out.mono ?_
                        rintro e w14 ⟨rfl, hb⟩
                        have BE := Lib.hid (below_then B.out (below_then M9.out.kp hb M9.out.kp.size) B.out.size)
                        clear CW hb
                        go_wp2
                        go_ret
                        exact ⟨rfl, BE.out⟩
end Go.Proofs.YtnpnpkaklamboaaDoor
