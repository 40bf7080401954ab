/- Layer 17: LobKeys. -/
import Derived.Test.YtaiiimlmkigajaaLobCh
set_option linter.unusedVariables false
set_option linter.unusedSimpArgs false
namespace Go.Proofs.Ytaiiimlmkigajaa
open Go.RowKit Go.Maps Go.ChangeShapes Go.WideShapes Go.ChangeAt Go.Deep

theorem run_min4 {P : Program} (wx : World) (ts : Array TypeId) (t : TypeId) (x y z u : Int) : (Builtin.min_ ts t #[.int .i64 x, .int .i64 y, .int .i64 z, .int .i64 u]).run P wx = .ok (.int .i64 (min (min (min x y) z) u)) wx := by
  simp [Builtin.min_, Builtin.min2]
  omega
theorem run_max4 {P : Program} (wx : World) (ts : Array TypeId) (t : TypeId) (x y z u : Int) : (Builtin.max_ ts t #[.int .i64 x, .int .i64 y, .int .i64 z, .int .i64 u]).run P wx = .ok (.int .i64 (max (max (max x y) z) u)) wx := by
  simp [Builtin.max_, Builtin.max2]
  omega
set_option maxRecDepth 100000 in
set_option maxHeartbeats 16000000 in
theorem lobkeys_core (v : Value) (a b i k : Int) (w : World) (h : v = .agg #[.int .i64 a, .int .i64 b, .int .i64 i, .int .i64 k] ∧ in64 a ∧ in64 b ∧ in64 i ∧ in64 k) :
    Calls Try.prog 3 #[v] w fun e w' => e = .returned (.bool true) ∧ Below w.heap.size w w' := by
  obtain ⟨rfl, ha, hb, hi, hk⟩ := h
  have IN := Lib.hid (show (-9223372036854775808 ≤ a ∧ a ≤ 9223372036854775807) ∧ (-9223372036854775808 ≤ b ∧ b ≤ 9223372036854775807) ∧ (-9223372036854775808 ≤ i ∧ i ≤ 9223372036854775807) ∧ (-9223372036854775808 ≤ k ∧ k ≤ 9223372036854775807) from ⟨ha, hb, hi, hk⟩)
  clear ha hb hi hk
  have K0 := Lib.hid (Bk.new w 23 #[.int .i64 a, .int .i64 b, .int .i64 i, .int .i64 k])
  have B0 := Lib.hid ((Below.refl w.heap.size w).alloc (Nat.le_refl _) (.cells #[.int .i64 a, .int .i64 b, .int .i64 i, .int .i64 k] 23))
  go_enter Try.func3, Try.ntmps3
  go_upto_region 1 with fail
  change Code.wp _ _ _ _ (w.alloc (.cells #[.int .i64 a, .int .i64 b, .int .i64 i, .int .i64 k] 23))
  obtain ⟨G, hG⟩ : ∃ G, G = w.heap.size := ⟨_, rfl⟩
  rw [← hG] at K0
  have HG := Lib.hid hG
  rw [← hG]
  clear hG
  generalize w.alloc (.cells #[.int .i64 a, .int .i64 b, .int .i64 i, .int .i64 k] 23) = w0 at *
  have x0 : w0.cell? ⟨G, 0, none⟩ = some (.int .i64 a) := K0.out.cell 0
  have x1 : w0.cell? ⟨G, 1, none⟩ = some (.int .i64 b) := K0.out.cell 1
  have x2 : w0.cell? ⟨G, 2, none⟩ = some (.int .i64 i) := K0.out.cell 2
  have x3 : w0.cell? ⟨G, 3, none⟩ = some (.int .i64 k) := K0.out.cell 3
  go_quiet (fail)
  have B1 := Lib.hid (below_drewN B0.out nq)
  clear x0 x1 x2 x3 K0 B0
  generalize w0.drewN nq = w1 at *
  have CA := Lib.hid (awake17 w1)
  as_aux_lemma =>
    go_wp2_with fail
    refine CA.out.mono ?_
    rintro e w2 ⟨rfl, hb⟩
    have B2 := Lib.hid (below_then B1.out hb B1.out.size)
    clear hb CA B1
    go_upto_region 4 with fail
    obtain ⟨mn, hmn⟩ : ∃ mn, min (min (min a b) i) k = mn := ⟨_, rfl⟩
    obtain ⟨mx, hmx⟩ : ∃ mx, max (max (max a b) i) k = mx := ⟨_, rfl⟩
    have q1 := fun wx ts t => run_min4 (P := Try.prog) wx ts t a b i k
    have q2 := fun wx ts t => run_max4 (P := Try.prog) wx ts t a b i k
    rw [hmn] at q1
    rw [hmx] at q2
    by_cases c1 : mn < 0
    · have C1 := Lib.hid (fun wx => lkey_any a i wx IN.out.1 IN.out.2.2.1)
      as_aux_lemma =>
        go_wp2_with fail
        refine (C1.out _).mono ?_
        rintro e w3 ⟨rfl, hb⟩
        have B3 := Lib.hid (below_then B2.out hb B2.out.size)
        have z4 : (lkey a i).size = 4 := lkey_size a i
        clear hb C1
        go_wp2
        go_ret
        exact ⟨rfl, B3.out⟩
    by_cases c2 : 65535 < mx
    · have C1 := Lib.hid (fun wx => lkey_any a i wx IN.out.1 IN.out.2.2.1)
      as_aux_lemma =>
        go_wp2_with fail
        refine (C1.out _).mono ?_
        rintro e w3 ⟨rfl, hb⟩
        have B3 := Lib.hid (below_then B2.out hb B2.out.size)
        have z4 : (lkey a i).size = 4 := lkey_size a i
        clear hb C1
        go_wp2
        go_ret
        exact ⟨rfl, B3.out⟩
    have RG := Lib.hid (show (0 ≤ a ∧ a ≤ 65535) ∧ (0 ≤ b ∧ b ≤ 65535) ∧ (0 ≤ i ∧ i ≤ 65535) ∧ (0 ≤ k ∧ k ≤ 65535) by omega)
    have C1 := Lib.hid (fun wx => lkey_any a i wx IN.out.1 IN.out.2.2.1)
    have C2 := Lib.hid (fun wx => lkey_any b k wx IN.out.2.1 IN.out.2.2.2)
    have C3 := Lib.hid (fun wx => refKey_any a i wx RG.out.1 RG.out.2.2.1)
    have LT := Lib.hid (lkey_lt (a := a) (i := i) (b := b) (k := k) RG.out.1 RG.out.2.2.1 RG.out.2.1 RG.out.2.2.2)
    as_aux_lemma =>
      go_wp2_with fail
      refine (C1.out _).mono ?_
      rintro e w3 ⟨rfl, hb⟩
      have B3 := Lib.hid (below_then B2.out hb B2.out.size)
      clear hb C1 B2 hmn hmx c1 c2 q1 q2
      obtain ⟨K1, hK1⟩ : ∃ K1, K1 = lkey a i := ⟨_, rfl⟩
      obtain ⟨K2, hK2⟩ : ∃ K2, K2 = lkey b k := ⟨_, rfl⟩
      rw [← hK1] at C3 LT ⊢; rw [← hK2] at LT C2
      clear hK1 hK2
      as_aux_lemma =>
        go_wp2_with fail
        refine (C2.out _).mono ?_
        rintro e w4 ⟨rfl, hb⟩
        have B4 := Lib.hid (below_then B3.out hb B3.out.size)
        clear hb C2 B3
        as_aux_lemma =>
          go_wp2_with fail
          refine (C3.out _).mono ?_
          rintro e w5 ⟨rfl, hb⟩
          have B5 := Lib.hid (below_then B4.out hb B4.out.size)
          have es : (K1.toList == K1.toList) = true := by simp
          obtain ⟨q, hq⟩ : ∃ q, Op.bytesLess K1.toList K2.toList = q := ⟨_, rfl⟩
          have L2 : q = true ↔ a < b ∨ (a = b ∧ i < k) := by rw [← hq]; exact LT.out
          clear hb C3 B4 LT
          by_cases d1 : a < b
          · have hqt : q = true := L2.2 (.inl d1)
            as_aux_lemma =>
              go_wp2
              go_ret
              exact ⟨rfl, B5.out⟩
          by_cases d2 : a = b
          · by_cases d3 : i < k
            · have hqt : q = true := L2.2 (.inr ⟨d2, d3⟩)
              have d2b : (a == b) = true := by simp [d2]
              clear d2
              as_aux_lemma =>
                go_wp2
                go_ret
                exact ⟨rfl, B5.out⟩
            · have hqt : q = false := by
                cases q with
                | false => rfl
                | true => rcases L2.1 rfl with h | h <;> omega
              have d2b : (a == b) = true := by simp [d2]
              clear d2
              as_aux_lemma =>
                go_wp2
                go_ret
                exact ⟨by show Ending.returned (.bool (!decide (a < b) && !decide (i < k))) = _; rw [decide_eq_false (show ¬ a < b by omega), decide_eq_false (show ¬ i < k by omega)]; rfl, B5.out⟩
          · have hqt : q = false := by
              cases q with
              | false => rfl
              | true => rcases L2.1 rfl with h | h <;> omega
            have d2b : (a == b) = false := by simp [d2]
            clear d2
            as_aux_lemma =>
              go_wp2
              go_ret
              exact ⟨by show Ending.returned (.bool !decide (a < b)) = _; rw [decide_eq_false (show ¬ a < b by omega)]; rfl, B5.out⟩
def IsFour (v : Value) (q : Int × Int × Int × Int) : Prop := v = .agg #[.int .i64 q.1, .int .i64 q.2.1, .int .i64 q.2.2.1, .int .i64 q.2.2.2] ∧ in64 q.1 ∧ in64 q.2.1 ∧ in64 q.2.2.1 ∧ in64 q.2.2.2
set_option maxRecDepth 100000 in
theorem read_fourq {H : Type} {enc : TypeId × Value → H} {w : World} {base : Nat} {held : Bool} {r : Reach} {b0 : Nat} {d : DataW H} {p : List MemPlace} {v : Value}
    (hv : Value.okWide Try.prog w r b0 23 v) (h : DataW.Trod enc Try.prog w base (fun _ => true) held 23 v d p) : ∃ q : Int × Int × Int × Int, IsFour v q := by
  obtain ⟨a, b, i, k, h1⟩ := read_four hv h
  exact ⟨(a, b, i, k), h1⟩
theorem walk_LobKeys (v : Value) (q : Int × Int × Int × Int) (w : World) (h : IsFour v q) :
    Calls Try.prog 3 #[v] w fun e w' => e = .returned (.bool true) ∧ Below w.heap.size w w' :=
  lobkeys_core v q.1 q.2.1 q.2.2.1 q.2.2.2 w h
end Go.Proofs.Ytaiiimlmkigajaa
