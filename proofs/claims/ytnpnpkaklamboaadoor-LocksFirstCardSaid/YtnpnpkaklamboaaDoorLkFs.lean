/- LocksFirst. -/
import Derived.Test.YtnpnpkaklamboaaDoorLkAll0
set_option linter.unusedVariables false
set_option linter.unusedSimpArgs false
namespace Go.Proofs.YtnpnpkaklamboaaDoor
open Go.RowKit Go.Shelf

theorem tab_LocksFirst (W : World) (h : W.cell? ⟨0, 0, none⟩ = some (.int .i64 0) ∧ W.cell? ⟨0, 1, none⟩ = some (.int .i64 1) ∧ W.cell? ⟨0, 2, none⟩ = some (.int .i64 3) ∧
    W.cell? ⟨0, 3, none⟩ = some (.int .i64 5) ∧ W.cell? ⟨0, 4, none⟩ = some (.int .i64 7) ∧ W.cell? ⟨0, 5, none⟩ = some (.int .i64 13) ∧ W.cell? ⟨0, 6, none⟩ = some (.int .i64 31)) : Tab W := tab_of W h
/-- Those who wait, one behind the other. -/
def wl : Int → Nat → List (Int × Nat)
  | _, 0 => []
  | x, k + 1 => (x + 1, 6) :: wl (x + 1) k
theorem wl_more : ∀ (k : Nat) (x : Int), wl x k ++ [(x + k + 1, 6)] = wl x (k + 1)
  | 0, x => by simp [wl]
  | k + 1, x => by
    rw [wl, List.cons_append]
    have := wl_more k (x + 1)
    rw [show x + 1 + (k : Int) + 1 = x + ((k + 1 : Nat) : Int) + 1 by omega] at this
    rw [this]
    rfl
theorem wl_mem : ∀ (k : Nat) (x : Int) (p : Int × Nat), p ∈ wl x k ↔ p.2 = 6 ∧ x < p.1 ∧ p.1 ≤ x + k
  | 0, x, p => by
    simp only [wl, List.not_mem_nil, false_iff]
    omega
  | k + 1, x, p => by
    obtain ⟨a, b⟩ := p
    rw [wl, List.mem_cons, wl_mem k (x + 1)]
    simp only [Prod.mk.injEq]
    omega
def fq (x : Int) (k : Nat) : Que := ⟨[⟨x, 6, 0⟩], [], wl x k⟩
/-- One holds X, k wait. -/
def FS (T : Tbl) (n : Nm) (x : Int) (k : Nat) : Prop := T.qs n = some (fq x k) ∧ ∀ m, m ≠ n → T.qs m = none
section
variable {T : Tbl} {n : Nm} {x : Int} {k : Nat}
theorem fs_q (h : FS T n x k) : T.q n = fq x k := Tbl.q_some h.1
theorem fs_wt (h : FS T n x k) (ok : T.ok cpN) (y : Int) : (T.wt y).isSome = decide (x < y ∧ y ≤ x + k) := by
  by_cases e : x < y ∧ y ≤ x + k
  · rw [(ok.w y n).2 (by rw [fs_q h]; exact .inr ⟨(y, 6), (wl_mem k x _).2 ⟨rfl, e⟩, rfl⟩), decide_eq_true e]
    rfl
  · rw [decide_eq_false e]
    cases hw : T.wt y with
    | none => rfl
    | some m =>
      exfalso
      have := (ok.w y m).1 hw
      by_cases em : m = n
      · subst em
        rw [fs_q h] at this
        rcases this with h1 | ⟨p, hp, rfl⟩
        · cases h1
        · exact e ((wl_mem k x p).1 hp).2
      · rw [Tbl.q_none (h.2 m em)] at this
        rcases this with h1 | ⟨p, hp, _⟩
        · cases h1
        · cases hp
theorem fs_mode (h : FS T n x k) : T.mode x n = 6 ∧ T.mode (x + 1) n = 0 := by
  unfold Tbl.mode
  rw [fs_q h]
  have a : getH x (fq x k).hs = some ⟨x, 6, 0⟩ := by simp [getH, fq]
  have b : getH (x + 1) (fq x k).hs = none := by simp [getH, fq]; omega
  rw [a, b]
  exact ⟨rfl, rfl⟩
theorem fs_first (n : Nm) : FS (Tbl.nil.asked cpN jnN 0 n 6) n 0 0 := by
  refine ⟨?_, fun m hm => ?_⟩
  · unfold Tbl.asked
    dsimp only
    rw [if_pos rfl]
    rfl
  · unfold Tbl.asked
    dsimp only
    rw [if_neg hm]
    rfl
theorem fs_ask (h : FS T n 0 k) : ((T.q n).ask cpN jnN (k + 1) 6).2 = false ∧ FS (T.asked cpN jnN (k + 1) n 6) n 0 (k + 1) := by
  have e : (fq 0 k).ask cpN jnN ((k : Int) + 1) 6 = (fq 0 (k + 1), false) := by
    unfold Que.ask
    have g : getH ((k : Int) + 1) (fq 0 k).hs = none := by simp [getH, fq]; omega
    rw [g]
    dsimp only
    rw [if_neg]
    · have := wl_more k 0
      rw [Int.zero_add] at this
      unfold fq
      rw [this]
    · rintro ⟨_, _, h3⟩
      unfold Que.free fq at h3
      simp at h3
      rcases h3 with h3 | h3
      · omega
      · exact absurd h3 (by decide)
  refine ⟨by rw [fs_q h, e], ?_, fun m hm => ?_⟩
  · unfold Tbl.asked
    dsimp only
    rw [if_pos rfl, fs_q h, e]
  · unfold Tbl.asked
    dsimp only
    rw [if_neg hm]
    exact h.2 m hm
theorem fs_rel (h : FS T n x (k + 1)) : FS (T.release cpN x) n (x + 1) k := by
  have e : (fq x (k + 1)).rel cpN x = (fq (x + 1) k, [x + 1]) := by
    unfold Que.rel
    rw [if_pos (.inl ⟨_, List.mem_cons_self, rfl⟩)]
    have l : (fq x (k + 1)).leave x = ⟨[], [], (x + 1, 6) :: wl (x + 1) k⟩ := by
      unfold Que.leave fq
      have : (wl x (k + 1)).filter (fun p => p.1 != x) = wl x (k + 1) := List.filter_eq_self.2 fun p hp => by
        have := ((wl_mem (k + 1) x p).1 hp).2
        simp; omega
      rw [this]
      simp [wl]
    rw [l]
    unfold Que.give
    dsimp only
    rw [give1_done (by rfl)]
    dsimp only
    have g2 : Que.give2 cpN ((x + 1, 6) :: wl (x + 1) k).length ⟨[], [], (x + 1, 6) :: wl (x + 1) k⟩ = _ := give2_step (cp := cpN) (q := ⟨[], [], (x + 1, 6) :: wl (x + 1) k⟩) (p := (x + 1, 6)) (l := wl (x + 1) k) rfl ⟨rfl, rfl⟩
    rw [g2]
    have d : ∀ j, Que.give2 cpN j (fq (x + 1) k) = (fq (x + 1) k, []) := give2_done fun p l hw hc => by
      have hp : p ∈ wl (x + 1) k := by
        have : (fq (x + 1) k).ws = wl (x + 1) k := rfl
        rw [← this, hw]
        exact List.mem_cons_self
      have h1 := (wl_mem k (x + 1) p).1 hp
      have h3 := hc.2
      unfold Que.free fq at h3
      simp at h3
      rcases h3 with h3 | h3
      · omega
      · rw [h1.1] at h3; exact absurd h3 (by decide)
    have hh : (Que.mk [] [] ((x + 1, 6) :: wl (x + 1) k)).headW (x + 1, 6) (wl (x + 1) k) = fq (x + 1) k := rfl
    rw [hh, d]
    rfl
  refine ⟨?_, fun m hm => ?_⟩
  · unfold Tbl.release
    dsimp only
    rw [h.1]
    dsimp only
    rw [e, if_neg]
    rintro ⟨_, h2, _⟩
    cases h2
  · unfold Tbl.release
    dsimp only
    rw [h.2 m hm]
theorem fs_last (h : FS T n x 0) : ∀ m, (T.release cpN x).qs m = none := by
  intro m
  unfold Tbl.release
  dsimp only
  by_cases hm : m = n
  · subst hm
    rw [h.1]
    dsimp only
    have hh : (fq x 0).has x := .inl ⟨_, List.mem_cons_self, rfl⟩
    have e : (fq x 0).rel cpN x = (⟨[], [], []⟩, []) := by
      unfold Que.rel
      rw [if_pos hh]
      have l : (fq x 0).leave x = ⟨[], [], []⟩ := by
        unfold Que.leave fq
        simp [wl]
      rw [l]
      rfl
    rw [e, if_pos ⟨hh, rfl, rfl⟩]
  · rw [h.2 m hm]
end
set_option maxRecDepth 100000 in
set_option maxHeartbeats 8000000 in
theorem walk_LocksFirst (a : Int) (v1 : Value) (n : Nm) (W : World) (hT : Tab W) (ha1 : -9223372036854775808 ≤ a) (ha2 : a ≤ 9223372036854775807) (h1 : IsNm v1 n) :
    Calls Tryd.prog 7 #[.int .i64 a, v1] W fun e w' => e = .returned (.bool true) ∧ Below W.heap.size W w' := by
  obtain ⟨rfl, hn⟩ := h1
  obtain ⟨s, tt⟩ := n
  have B0 := Lib.hid ((Below.refl W.heap.size W).alloc (Nat.le_refl _) (.cells #[.int .i64 s, .string tt] 27))
  have KN := Lib.hid (Bk.new W 27 #[.int .i64 s, .string tt])
  have T0 := Lib.hid (hT.below B0.out)
  obtain ⟨K, hK⟩ : ∃ K, K = W.heap.size := ⟨_, rfl⟩
  have HK := Lib.hid hK
  rw [← hK] at KN
  have HN := Lib.hid hn
  have R1 : Int.tmod a 40 ≤ 39 ∧ -39 ≤ Int.tmod a 40 := by
    have h1 := Int.tmod_lt_of_pos a (b := 40) (by decide)
    have h2 := Int.lt_tmod_of_pos a (b := 40) (by decide)
    omega
  clear hT hK hn
  go_enter Tryd.func7, Tryd.ntmps7
  go_upto_region 1 with fail
  rw [← HK.out]
  generalize W.alloc (.cells #[.int .i64 s, .string tt] 27) = w1 at *
  have CA := Lib.hid (awake_any T0.out)
  go_wp2_with fail
  refine CA.out.mono ?_
  rintro e w3 ⟨rfl, hb⟩
  have TB := Lib.hid (T0.out.below hb)
  have B := Lib.hid (below_then B0.out hb B0.out.size)
  have KB := Lib.hid (KN.out.kept hb)
  clear T0 B0 KN CA hb
  have C0 := Lib.hid (l1_new TB.out)
  go_wp2_with fail
  refine C0.out.mono ?_
  rintro e w4 ⟨t, rfl, hL⟩
  obtain ⟨N, hN⟩ : ∃ N : Nat, (a.tmod 40 + 40) % 40 = N := ⟨((a.tmod 40 + 40) % 40).toNat, by omega⟩
  have N39 : N ≤ 39 := by omega
  rw [hN]
  have M0 := Lib.hid hL
  clear C0 hL hN R1 ha1 ha2
  have n0 : w4.cell? ⟨K, 0, none⟩ = some (.int .i64 s) := (KB.out.kept M0.out.kp).cell 0
  have n1 : w4.cell? ⟨K, 1, none⟩ = some (.string tt) := (KB.out.kept M0.out.kp).cell 1
  have C1 := Lib.hid (l1_ask M0.out (by decide) 0 (by decide) ⟨s, tt⟩ HN.out 6 (by decide) (by decide) rfl)
  rw [show ((Tbl.nil.q ⟨s, tt⟩).ask cpN jnN 0 6).2 = true from rfl] at C1
  as_aux_lemma =>
    go_wp2_with fail
    refine C1.out.mono ?_
    rintro e w5 ⟨rfl, hL, -⟩
    have M1 := Lib.hid (show L1 w3 (fun _ => False) w5 t 1 (Tbl.nil.asked cpN jnN 0 ⟨s, tt⟩ 6) ∧ FS (Tbl.nil.asked cpN jnN 0 ⟨s, tt⟩ 6) ⟨s, tt⟩ 0 0 from ⟨hL, fs_first _⟩)
    clear C1 M0 hL n0 n1
    as_aux_lemma =>
      go_wp2_with fail
      go_loopw [8] (fun s8 wr => ∃ (i : Nat) (T : Tbl), s8 = .int .i64 ((i : Int) + 1) ∧ i ≤ N ∧ Hid (L1 w3 (fun _ => False) wr t (i + 1) T ∧ FS T ⟨s, tt⟩ 0 i)) (fun s8 _ => N + 1 - (intOf s8).toNat)
      case atStart => exact ⟨0, _, rfl, Nat.zero_le _, M1⟩
      case round =>
        clear M1
        obtain ⟨i, T, rfl, hiN, hI⟩ := hrel
        by_cases hlt : i < N
        · have hlt2 : (i : Int) + 1 ≤ (N : Int) := by omega
          have n0 : wr.cell? ⟨K, 0, none⟩ = some (.int .i64 s) := (KB.out.kept hI.out.1.kp).cell 0
          have n1 : wr.cell? ⟨K, 1, none⟩ = some (.string tt) := (KB.out.kept hI.out.1.kp).cell 1
          have FA := Lib.hid (fs_ask hI.out.2)
          have C1 := Lib.hid (l1_ask hI.out.1 (by omega) ((i : Int) + 1) (by unfold I64; omega) ⟨s, tt⟩ HN.out 6 (by decide) (by decide) (by
            have := fs_wt hI.out.2 hI.out.1.ok ((i : Int) + 1)
            rw [decide_eq_false (by omega)] at this
            cases e : T.wt ((i : Int) + 1) with
            | none => rfl
            | some m => rw [e] at this; cases this))
          rw [FA.out.1] at C1
          as_aux_lemma =>
            go_wp2_with fail
            refine C1.out.mono ?_
            rintro e w6 ⟨rfl, hL, -⟩
            have M2 := Lib.hid hL
            have CW := Lib.hid (l1_wait M2.out ((i : Int) + 1) (by unfold I64; omega))
            have WT := Lib.hid (fs_wt FA.out.2 M2.out.ok ((i : Int) + 1))
            rw [decide_eq_true (by omega)] at WT
            rw [WT.out] at CW
            clear C1 hI hL n0 n1 WT
            as_aux_lemma =>
              go_wp2_with fail
              refine CW.out.mono ?_
              rintro e w7 ⟨rfl, hb⟩
              have M3 := Lib.hid (M2.out.kept hb)
              clear CW M2 hb
              go_wp2
              go_roundw
              case rel => exact ⟨i + 1, _, by go_num, by omega, Lib.hid ⟨M3.out, FA.out.2⟩⟩
              case measure => simp [intOf]; omega
        · obtain rfl : N = i := by omega
          have hlt2 : ¬ ((N : Int) + 1 ≤ (N : Int)) := by omega
          have M1 := Lib.hid hI.out
          clear hI hlt
          as_aux_lemma =>
            go_wp2_with fail
            go_loopw [11] (fun s11 wr => ∃ (x : Nat) (T : Tbl), s11 = .int .i64 (x : Int) ∧ x ≤ N + 1 ∧ Hid (L1 w3 (fun _ => False) wr t (N + 1) T ∧ ((x ≤ N ∧ FS T ⟨s, tt⟩ (x : Int) (N - x)) ∨ (x = N + 1 ∧ ∀ m, T.qs m = none)))) (fun s11 _ => N + 1 - (intOf s11).toNat)
            case atStart => exact ⟨0, T, by go_num, by omega, Lib.hid ⟨M1.out.1, .inl ⟨Nat.zero_le _, by simpa using M1.out.2⟩⟩⟩
            case round =>
              clear M1
              obtain ⟨x, T, rfl, hxN, hI⟩ := hrel
              have L0 := Lib.hid hI.out.1
              rcases hI.out.2 with ⟨hx, hF⟩ | ⟨rfl, hE⟩
              · have FF := Lib.hid hF
                have hx2 : (x : Int) ≤ (N : Int) := by omega
                have n0 : wr.cell? ⟨K, 0, none⟩ = some (.int .i64 s) := (KB.out.kept L0.out.kp).cell 0
                have n1 : wr.cell? ⟨K, 1, none⟩ = some (.string tt) := (KB.out.kept L0.out.kp).cell 1
                have C1 := Lib.hid (l1_mode L0.out (by omega) (x : Int) ⟨s, tt⟩ HN.out)
                rw [(fs_mode hF).1] at C1
                clear hI hF
                as_aux_lemma =>
                  go_wp2_with fail
                  refine C1.out.mono ?_
                  rintro e w6 ⟨rfl, hb⟩
                  have M2 := Lib.hid (L0.out.kept hb)
                  have CW := Lib.hid (l1_wait M2.out (x : Int) (by unfold I64; omega))
                  have WT := Lib.hid (fs_wt FF.out M2.out.ok (x : Int))
                  rw [decide_eq_false (by omega)] at WT
                  rw [WT.out] at CW
                  clear C1 L0 hb n0 n1 WT
                  by_cases hxl : x < N
                  · have hxl2 : (x : Int) < (N : Int) := by omega
                    as_aux_lemma =>
                      go_wp2_with fail
                      refine CW.out.mono ?_
                      rintro e w7 ⟨rfl, hb⟩
                      have M3 := Lib.hid (M2.out.kept hb)
                      clear CW M2 hb
                      have n0 : w7.cell? ⟨K, 0, none⟩ = some (.int .i64 s) := (KB.out.kept M3.out.kp).cell 0
                      have n1 : w7.cell? ⟨K, 1, none⟩ = some (.string tt) := (KB.out.kept M3.out.kp).cell 1
                      have C1 := Lib.hid (l1_mode M3.out (by omega) ((x : Int) + 1) ⟨s, tt⟩ HN.out)
                      rw [(fs_mode FF.out).2] at C1
                      as_aux_lemma =>
                        go_wp2_with fail
                        refine C1.out.mono ?_
                        rintro e w8 ⟨rfl, hb⟩
                        have M4 := Lib.hid (M3.out.kept hb)
                        clear C1 M3 hb n0 n1
                        have CR := Lib.hid (l1_rel M4.out (by omega) (x : Int) (by unfold I64; omega))
                        as_aux_lemma =>
                          go_wp2_with fail
                          refine CR.out.mono ?_
                          rintro e w9 ⟨rfl, hL, -⟩
                          have M5 := Lib.hid (show L1 w3 (fun _ => False) w9 t (N + 1) (T.release cpN x) ∧ FS (T.release cpN x) ⟨s, tt⟩ ((x + 1 : Nat) : Int) (N - (x + 1)) from ⟨hL, by
                            have h := FF.out
                            rw [show N - x = (N - (x + 1)) + 1 by omega] at h
                            exact fs_rel h⟩)
                          clear CR M4 hL
                          go_wp2
                          go_roundw
                          case rel => exact ⟨x + 1, _, by go_num, by omega, Lib.hid ⟨M5.out.1, .inl ⟨hxl, M5.out.2⟩⟩⟩
                          case measure => simp [intOf]; omega
                  · obtain rfl : N = x := by omega
                    have hxl2 : ¬ ((N : Int) < (N : Int)) := by omega
                    as_aux_lemma =>
                      go_wp2_with fail
                      refine CW.out.mono ?_
                      rintro e w7 ⟨rfl, hb⟩
                      have M4 := Lib.hid (M2.out.kept hb)
                      clear CW M2 hb
                      have CR := Lib.hid (l1_rel M4.out (by omega) (N : Int) (by unfold I64; omega))
                      as_aux_lemma =>
                        go_wp2_with fail
                        refine CR.out.mono ?_
                        rintro e w9 ⟨rfl, hL, -⟩
                        have M5 := Lib.hid (show L1 w3 (fun _ => False) w9 t (N + 1) (T.release cpN (N : Int)) ∧ ∀ m, (T.release cpN (N : Int)).qs m = none from ⟨hL, fs_last (by have h := FF.out; rw [Nat.sub_self] at h; exact h)⟩)
                        clear CR M4 hL
                        go_wp2
                        go_roundw
                        case rel => exact ⟨N + 1, _, by go_num, by omega, Lib.hid ⟨M5.out.1, .inr ⟨rfl, M5.out.2⟩⟩⟩
                        case measure => simp [intOf]
              · have hx2 : ¬ (((N + 1 : Nat) : Int) ≤ (N : Int)) := by omega
                have CA := Lib.hid (l1_all0 L0.out hE)
                clear hI
                as_aux_lemma =>
                  go_wp2_with fail
                  refine CA.out.mono ?_
                  rintro e w6 ⟨rfl, hb⟩
                  have BE := Lib.hid (below_then B.out (below_then L0.out.kp hb L0.out.kp.size) B.out.size)
                  clear CA hb
                  go_wp2
                  go_ret
                  exact ⟨rfl, BE.out⟩
end Go.Proofs.YtnpnpkaklamboaaDoor
