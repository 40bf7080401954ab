/- The walk of PageCodes. -/
import Derived.Test.YtmjgakbaalbmfaaPgRooms2
import Derived.Test.YtmjgakbaalbmfaaPgREnc
import Derived.Test.YtmjgakbaalbmfaaKept
set_option linter.unusedVariables false
set_option linter.unusedSimpArgs false
namespace Go.Proofs.Ytmjgakbaalbmfaa
open Go.RowKit Go.BigFrame

/-- The first free cell from kk on, or -1. -/
def IsWant (c : Nat → Ce) (kk : Nat) (wn : Int) : Prop := (wn = -1 ∧ ∀ q, kk ≤ q → q < 6 → (c q).st ≠ 0) ∨ (∃ i : Nat, wn = i ∧ kk ≤ i ∧ i < 6 ∧ (c i).st = 0 ∧ ∀ q, kk ≤ q → q < i → (c q).st ≠ 0)
theorem want_room {c : Nat → Ce} {wn : Int} {i : Nat} {ok : Bool} (h : IsWant c 0 wn) (r : IsRoom c i ok) : ok = decide (0 ≤ wn) ∧ (i : Int) = max wn 0 := by
  rcases h with ⟨rfl, hq⟩ | ⟨m, rfl, _, hm, h0, hq⟩
  · rcases r with ⟨_, hi, h1, _⟩ | ⟨rfl, rfl, _⟩
    · exact absurd h1 (hq i (Nat.zero_le _) hi)
    · exact ⟨rfl, rfl⟩
  · rcases r with ⟨rfl, hi, h1, h2⟩ | ⟨_, _, h2⟩
    · have e : i = m := by
        rcases Nat.lt_trichotomy i m with h | h | h
        · exact absurd h1 (hq i (Nat.zero_le _) h)
        · exact h
        · exact absurd h0 (h2 m h)
      subst e
      exact ⟨by simp, by omega⟩
    · exact absurd h0 (h2 m hm)
theorem q_page {v : World} {o : Oper} {a : Act} {K : Act → Prop} (y : Operand) (ho : o.op = .load 26 y) (g : Nat) (p : Pg)
    (hx : a.eval y = .pointer (some ⟨g, 0, none⟩)) (hb : Bk v g 26 p.cs) (h : K (a.put o.dst (.agg p.cs))) : o.quiet Try.prog a (fun w' => ∃ x : Kp v, w' = x.1) K := by
  refine kp_load 26 y ho _ (fun x => ?_) h
  unfold execOp
  simp only [ho, hx, Instr.loadAt, Instr.sureAddr, Sem.run_bind, Sem.run_pure, Result.andThen_ok, run_loadVar_row x.1 g 26 26 p.cs (0, 0) _ (x.bk hb) Try.underlying26 rfl (by rw [show p.cs.size = 16 from rfl]; kernel_rfl)]
set_option maxRecDepth 100000 in
set_option maxHeartbeats 4000000 in
theorem codes_core (p : Pg) (w : World) :
    Calls Try.prog 3 #[p.v] w fun e w' => e = .returned (.bool true) ∧ Below w.heap.size w w' := by
  have CA := Lib.hid awake_any
  have CE := Lib.hid (fun w => encode_any p w)
  have CR := Lib.hid (fun w => rencode_any p w)
  have CM := Lib.hid (fun w => room_any p w)
  have CK := Lib.hid (fun w => check_any p w)
  have CG := Lib.hid (fun w => rright_any p w)
  unfold Pg.v
  go_enter Try.func3, Try.ntmps3
  go_wp2_with fail
  refine (CA.out _).mono ?_
  rintro e w2 ⟨rfl, hb2⟩
  have k2 := (Bk.new w 26 p.cs).kept hb2
  have b2 := below_then ((Below.refl _ _).alloc (Nat.le_refl _) (.cells p.cs 26)) hb2 (by simp)
  have K2 := Lib.hid k2; have B2 := Lib.hid b2
  clear k2 b2 hb2 CA
  go_wp2_with (refine load_page rfl _ rfl w.heap.size p rfl K2.out ?_)
  refine (CE.out _).mono ?_
  rintro e w3 ⟨rfl, hb3⟩
  have K3 := Lib.hid (K2.out.kept hb3); have B3 := Lib.hid (below_then B2.out hb3 B2.out.size)
  clear hb3 K2 B2 CE
  go_wp2_with (refine load_page rfl _ rfl w.heap.size p rfl K3.out ?_)
  refine (CR.out _).mono ?_
  rintro e w4 ⟨rfl, hb4⟩
  have K4 := Lib.hid (K3.out.kept hb4); have B4 := Lib.hid (below_then B3.out hb4 B3.out.size)
  clear hb4 K3 B3 CR
  go_wp2_with (refine load_page rfl _ rfl w.heap.size p rfl K4.out ?_)
  refine (CM.out _).mono ?_
  rintro e w5 ⟨i, ok, rfl, hr, hb5⟩
  have K5 := Lib.hid (K4.out.kept hb5); have B5 := Lib.hid (below_then B4.out hb5 B4.out.size); have HR := Lib.hid hr
  clear hb5 K4 B4 CM hr
  go_wp2_with fail
  generalize hen : p.enc = s at *
  go_loopw [9, 10] (fun x y wr => ∃ (kk : Nat) (wn : Int), kk ≤ 6 ∧ y = .int .i64 ((kk : Int) - 1) ∧ x = .int .i64 wn ∧ IsWant p.c kk wn ∧ wr = w5) (fun x y _ => (intOf y + 1).toNat)
  case atStart => exact ⟨6, -1, Nat.le_refl _, rfl, rfl, .inl ⟨rfl, fun q h1 h2 => by omega⟩, rfl⟩
  case round =>
    obtain ⟨kk, wn, hkk, rfl, rfl, hw, rfl⟩ := hrel
    by_cases h0 : kk = 0
    · subst h0
      obtain ⟨q1, q2⟩ := want_room hw HR.out
      have hneg : ¬ (0 : Int) ≤ ((0 : Nat) : Int) - 1 := by omega
      rcases hw with ⟨rfl, _⟩ | ⟨m, rfl, _, _, _, _⟩
      · obtain rfl : ok = false := by rw [q1]; rfl
        obtain rfl : i = 0 := by omega
        clear q1 q2 HR
        rw [show ((0 : Nat) : Int) = 0 from rfl]
        rw [show ((0 : Nat) : Int) = 0 from rfl] at hneg
        go_wp2_with fail
        by_cases hp : p.ok
        · have cc := CK.out
          have cd := CG.out
          rw [Pg.err_ok hp] at cc
          rw [decide_eq_true hp] at cd
          rw [Pg.err_ok hp]
          have CC := Lib.hid cc; have CD := Lib.hid cd
          clear cc cd CK CG hp
          refine wp_region_kept (by kernel_rfl) (by kernel_rfl) ?_
          repeat (first
            | go_big_quiet_skip
            | (go_big_quiet_want; refine q_page _ rfl w.heap.size p rfl K5.out ?_; simp only [Act.put, List.setIfInBounds_toArray, List.set_cons_succ, List.set_cons_zero]; go_big_quiet_on)
            | (go_big_quiet_want; go_big_quiet_op; first | go_big_quiet_on | go_big_quiet_call (first | exact kp_call (CC.out _) | exact kp_call (CD.out _))))
          refine wpQuiet_nil ?_
          rintro _ ⟨x, rfl⟩
          have B9 := Lib.hid (B5.out.trans (x.2.mono B5.out.size))
          go_wp2
          go_ret
          exact ⟨rfl, B9.out⟩
        · have cc := CK.out
          have cd := CG.out
          rw [Pg.err_no hp] at cc
          rw [decide_eq_false hp] at cd
          rw [Pg.err_no hp]
          have CC := Lib.hid cc; have CD := Lib.hid cd
          clear cc cd CK CG hp
          refine wp_region_kept (by kernel_rfl) (by kernel_rfl) ?_
          repeat (first
            | go_big_quiet_skip
            | (go_big_quiet_want; refine q_page _ rfl w.heap.size p rfl K5.out ?_; simp only [Act.put, List.setIfInBounds_toArray, List.set_cons_succ, List.set_cons_zero]; go_big_quiet_on)
            | (go_big_quiet_want; go_big_quiet_op; first | go_big_quiet_on | go_big_quiet_call (first | exact kp_call (CC.out _) | exact kp_call (CD.out _))))
          refine wpQuiet_nil ?_
          rintro _ ⟨x, rfl⟩
          have B9 := Lib.hid (B5.out.trans (x.2.mono B5.out.size))
          go_wp2
          go_ret
          exact ⟨rfl, B9.out⟩
      · obtain rfl : ok = true := by rw [q1]; simp
        obtain rfl : i = m := by omega
        have hge : (0 : Int) ≤ (i : Int) := by omega
        have hmx : max (i : Int) 0 = (i : Int) := by omega
        clear q1 q2 HR
        go_wp2_with fail
        by_cases hp : p.ok
        · have cc := CK.out
          have cd := CG.out
          rw [Pg.err_ok hp] at cc
          rw [decide_eq_true hp] at cd
          rw [Pg.err_ok hp]
          have CC := Lib.hid cc; have CD := Lib.hid cd
          clear cc cd CK CG hp
          refine wp_region_kept (by kernel_rfl) (by kernel_rfl) ?_
          repeat (first
            | go_big_quiet_skip
            | (go_big_quiet_want; refine q_page _ rfl w.heap.size p rfl K5.out ?_; simp only [Act.put, List.setIfInBounds_toArray, List.set_cons_succ, List.set_cons_zero]; go_big_quiet_on)
            | (go_big_quiet_want; go_big_quiet_op; first | go_big_quiet_on | go_big_quiet_call (first | exact kp_call (CC.out _) | exact kp_call (CD.out _))))
          refine wpQuiet_nil ?_
          rintro _ ⟨x, rfl⟩
          have B9 := Lib.hid (B5.out.trans (x.2.mono B5.out.size))
          go_wp2
          go_ret
          exact ⟨rfl, B9.out⟩
        · have cc := CK.out
          have cd := CG.out
          rw [Pg.err_no hp] at cc
          rw [decide_eq_false hp] at cd
          rw [Pg.err_no hp]
          have CC := Lib.hid cc; have CD := Lib.hid cd
          clear cc cd CK CG hp
          refine wp_region_kept (by kernel_rfl) (by kernel_rfl) ?_
          repeat (first
            | go_big_quiet_skip
            | (go_big_quiet_want; refine q_page _ rfl w.heap.size p rfl K5.out ?_; simp only [Act.put, List.setIfInBounds_toArray, List.set_cons_succ, List.set_cons_zero]; go_big_quiet_on)
            | (go_big_quiet_want; go_big_quiet_op; first | go_big_quiet_on | go_big_quiet_call (first | exact kp_call (CC.out _) | exact kp_call (CD.out _))))
          refine wpQuiet_nil ?_
          rintro _ ⟨x, rfl⟩
          have B9 := Lib.hid (B5.out.trans (x.2.mono B5.out.size))
          go_wp2
          go_ret
          exact ⟨rfl, B9.out⟩
    · obtain ⟨m, rfl⟩ : ∃ m, kk = m + 1 := ⟨kk - 1, by omega⟩
      obtain ⟨y0, _⟩ := pg_cell K5.out m (by omega)
      rw [show ((m + 1 : Nat) : Int) - 1 = (m : Int) by omega]
      by_cases hz : (p.c m).st = 0
      · have HW := Lib.hid (show IsWant p.c m m from .inr ⟨m, rfl, Nat.le_refl _, by omega, hz, fun q h1 h2 => by omega⟩)
        rw [hz] at y0
        clear hw hz
        go_wp2
        go_roundw
        case rel => exact ⟨m, m, by omega, rfl, rfl, HW.out, by first | rfl | trivial⟩
        case measure => first | (simp [intOf]; done) | (simp [intOf]; omega)
      · have HW := Lib.hid (show IsWant p.c m wn from by
          rcases hw with ⟨h1, h2⟩ | ⟨i2, h1, h2, h3, h4, h5⟩
          · exact .inl ⟨h1, fun q a b => by
              by_cases e : q = m
              · rw [e]; exact hz
              · exact h2 q (by omega) b⟩
          · exact .inr ⟨i2, h1, by omega, h3, h4, fun q a b => by
              by_cases e : q = m
              · rw [e]; exact hz
              · exact h5 q (by omega) b⟩)
        have hz' : ((p.c m).st == 0) = false := by simp [hz]
        clear hw
        go_wp2
        go_roundw
        case rel => exact ⟨m, wn, by omega, rfl, rfl, HW.out, by first | rfl | trivial⟩
        case measure => first | (simp [intOf]; done) | (simp [intOf]; omega)
theorem walk_PageCodes (v : Value) (p : Pg) (w : World) (h : IsPage v p) :
    Calls Try.prog 3 #[v] w fun e w' => e = .returned (.bool true) ∧ Below w.heap.size w w' := by
  rw [h.val]
  exact codes_core p w
end Go.Proofs.Ytmjgakbaalbmfaa
