/- The walks of package node: Key, keyOf; of the document's own: Says. -/
import Derived.Test.YtedoechjjcbeeaaNodPlain
import Derived.Deep.QuietTactic
import Derived.BigQuiet
set_option linter.unusedVariables false
set_option linter.unusedSimpArgs false
namespace Go.Proofs.Ytedoechjjcbeeaa
open Go.RowKit

theorem rdst_below {w w' : World} {B g : Nat} {st : Oct.Rs} (h : RdSt w g st) (hb : Below B w w') (hg : g < B) : RdSt w' g st := RdAt.below h hb hg
set_option maxHeartbeats 1000000 in
theorem key_any (c : Ce) (w : World) (hs : c.d.size ≤ maxLen) :
    Calls Try.prog 14 #[c.v] w fun e w' => e = .returned (.tuple #[.string c.key, .string c.rst, .bool (decide c.says)]) ∧ Below w.heap.size w w' := by
  obtain ⟨st, d⟩ := c
  dsimp only at hs
  have cr := fun w => rd_read d w
  have ct := fun g w (h : RdSt w g (some d)) => rd_text g (some d) w h hs
  have CR := Lib.hid cr; have CT := Lib.hid ct
  clear cr ct
  have hbk : Bk (w.alloc (.cells #[.int .i64 st, .string d] 23)) w.heap.size 23 #[.int .i64 st, .string d] := Bk.new _ _ _
  have HBK := Lib.hid hbk; clear hbk
  have HS := Lib.hid hs; clear hs
  unfold Ce.v
  dsimp only
  generalize hK : Ce.key ⟨st, d⟩ = K
  generalize hR : Ce.rst ⟨st, d⟩ = R
  generalize hO : decide (Ce.says ⟨st, d⟩) = O
  have HK := Lib.hid hK; have HR := Lib.hid hR; have HO := Lib.hid hO
  clear hK hR hO
  go_enter Try.func14, Try.ntmps14
  go_wp2_with fail
  refine (CR.out _).mono ?_
  rintro e w2 ⟨rfl, hr2, hb2, hz2⟩
  have hz : w.heap.size + 1 < w2.heap.size := by simpa using hz2
  have K2 := Lib.hid (HBK.out.kept hb2)
  have B2 := Lib.hid (below_then ((Below.refl _ _).alloc (Nat.le_refl _) (.cells #[.int .i64 st, .string d] 23)) hb2 (by simp))
  rw [World.size_alloc] at hr2
  have R2 := Lib.hid hr2
  clear hb2 hr2 HBK CR hz2
  go_wp2_with fail
  refine (CT.out _ _ R2.out).mono ?_
  rintro e w3 ⟨rfl, hr3, hg3⟩
  have K3 := Lib.hid (K2.out.grown hg3 (by simp))
  have B3 := Lib.hid (below_grown B2.out hg3 (by omega) (by omega))
  have hz3 : w.heap.size + 1 < w3.heap.size := Nat.lt_of_lt_of_le hz hg3.size
  have c0 := K3.out.cell 0
  simp only [List.getElem?_toArray, List.getElem?_cons_zero] at c0
  clear hg3 K2 B2 R2 CT hz
  by_cases h0 : st = 0
  · have hn : ¬ Ce.says ⟨st, d⟩ := fun h => h.1 h0
    have hf : Hid (K = ⟨#[]⟩ ∧ R = ⟨#[]⟩ ∧ O = false) := Lib.hid ⟨by rw [← HK.out, Ce.key_no hn], by rw [← HR.out, Ce.rst_no hn], by rw [← HO.out, decide_eq_false hn]⟩
    subst h0
    clear HK HR HO hn hr3
    generalize Oct.rtext (some d) = p
    go_wp2
    go_ret3
    exact ⟨by rw [hf.out.1, hf.out.2.1, hf.out.2.2]; rfl, B3.out⟩
  · have h0' : (st == 0) = false := by simp [h0]
    by_cases ht : Tx d
    · rw [rtext_yes d ht] at hr3 ⊢
      dsimp only at hr3 ⊢
      have hks := tkey_size ht
      have R3 := Lib.hid hr3
      have cb : ∀ (wx : World), RdSt wx (w.heap.size + 1) (some (trest d)) → Calls Try.prog 39 #[.pointer (some ⟨w.heap.size + 1, 0, none⟩)] wx fun e w' => e = .returned (.bool false) ∧ wx = w' := fun (wx : World) h => rd_isbad (w.heap.size + 1) (some (trest d)) wx h
      have cl : ∀ (wx : World), RdSt wx (w.heap.size + 1) (some (trest d)) → Calls Try.prog 41 #[.pointer (some ⟨w.heap.size + 1, 0, none⟩)] wx fun e w' => e = .returned (.int .i64 ((trest d).size : Nat)) ∧ wx = w' := fun (wx : World) h => rd_left (w.heap.size + 1) (some (trest d)) wx h
      have CB := Lib.hid cb; have CL := Lib.hid cl
      clear cb cl
      have CY := Lib.hid (fun (wx : World) (h : RdSt wx (w.heap.size + 1) (some (trest d))) => rd_bytes (w.heap.size + 1) ((trest d).size : Nat) (some (trest d)) wx h (by show (trest d).size ≤ maxLen; rw [trest_size]; have := HS.out; omega))
      clear hr3
      by_cases h8 : n1 d ≤ 8
      · have hy : Ce.says ⟨st, d⟩ := ⟨h0, ht, h8⟩
        have hf : Hid (K = tkey d ∧ R = trest d ∧ O = true) := Lib.hid ⟨by rw [← HK.out, Ce.key_yes hy], by rw [← HR.out, Ce.rst_yes hy], by rw [← HO.out, decide_eq_true hy]⟩
        have hk8 : (tkey d).size ≤ 8 := by rw [hks]; exact h8
        have hk8' : ¬ (8 < (tkey d).size) := by omega
        have hall : Oct.rbytes (some (trest d)) ((trest d).size : Nat) = (trest d, some ⟨#[]⟩) := by
          simp only [Oct.rbytes]
          rw [if_neg (by omega)]
          simp
          rfl
        have HA := Lib.hid hall
        clear HK HR HO hy hks hall h8 ht h0
        generalize tkey d = tk at *
        generalize trest d = tr at *
        go_wp2_with fail
        refine (CB.out _ R3.out).mono ?_
        rintro e w4 ⟨rfl, rfl⟩
        clear CB K3 c0
        have B3b := B3.out.size
        clear hz3 
        go_wp2_with fail
        refine (CL.out _ R3.out).mono ?_
        rintro e w4 ⟨rfl, rfl⟩
        go_wp2_with fail
        have cy := CY.out _ R3.out
        rw [HA.out] at cy
        dsimp only at cy
        refine cy.mono ?_
        rintro e w4 ⟨rfl, _, hg4⟩
        have B4 := Lib.hid (below_grown B3.out hg4 (by omega) B3.out.size)
        clear cy hg4 CY
        go_wp2
        go_ret3
        exact ⟨by rw [hf.out.1, hf.out.2.1, hf.out.2.2]; rfl, B4.out⟩
      · have hn : ¬ Ce.says ⟨st, d⟩ := fun h => h8 h.2.2
        have hf : Hid (K = ⟨#[]⟩ ∧ R = ⟨#[]⟩ ∧ O = false) := Lib.hid ⟨by rw [← HK.out, Ce.key_no hn], by rw [← HR.out, Ce.rst_no hn], by rw [← HO.out, decide_eq_false hn]⟩
        have hk8 : 8 < (tkey d).size := by rw [hks]; omega
        clear HK HR HO hn hks
        generalize tkey d = tk at *
        go_wp2_with fail
        refine (CB.out _ R3.out).mono ?_
        rintro e w4 ⟨rfl, rfl⟩
        go_wp2
        go_ret3
        exact ⟨by rw [hf.out.1, hf.out.2.1, hf.out.2.2]; rfl, B3.out⟩
    · rw [rtext_no d ht] at hr3 ⊢
      dsimp only at hr3 ⊢
      have R3 := Lib.hid hr3
      have cb : ∀ (wx : World), RdSt wx (w.heap.size + 1) none → Calls Try.prog 39 #[.pointer (some ⟨w.heap.size + 1, 0, none⟩)] wx fun e w' => e = .returned (.bool true) ∧ wx = w' := fun (wx : World) h => rd_isbad (w.heap.size + 1) none wx h
      have CB := Lib.hid cb
      clear cb
      have hn : ¬ Ce.says ⟨st, d⟩ := fun h => ht h.2.1
      have hf : Hid (K = ⟨#[]⟩ ∧ R = ⟨#[]⟩ ∧ O = false) := Lib.hid ⟨by rw [← HK.out, Ce.key_no hn], by rw [← HR.out, Ce.rst_no hn], by rw [← HO.out, decide_eq_false hn]⟩
      clear HK HR HO hn hr3
      go_wp2_with fail
      refine (CB.out _ R3.out).mono ?_
      rintro e w4 ⟨rfl, rfl⟩
      go_wp2
      go_ret3
      exact ⟨by rw [hf.out.1, hf.out.2.1, hf.out.2.2]; rfl, B3.out⟩
theorem keyof_any (c : Ce) (w : World) (hs : c.d.size ≤ maxLen) :
    Calls Try.prog 44 #[c.v] w fun e w' => e = .returned (.string c.key) ∧ Below w.heap.size w w' := by
  have ck := fun w => key_any c w hs
  unfold Ce.v at *
  have CK := Lib.hid ck
  clear ck hs
  generalize Ce.key c = K at *
  generalize Ce.rst c = R at *
  generalize decide (Ce.says c) = O at *
  go_enter Try.func44, Try.ntmps44
  go_wp2_with fail
  refine (CK.out _).mono ?_
  rintro e w2 ⟨rfl, hb2⟩
  have B2 := Lib.hid (below_then ((Below.refl _ _).alloc (Nat.le_refl _) (.cells #[.int .i64 c.st, .string c.d] 23)) hb2 (by simp))
  clear hb2
  go_wp2
  go_ret
  exact ⟨rfl, B2.out⟩
set_option maxHeartbeats 1000000 in
theorem says_any (c : Ce) (w : World) (hs : c.d.size ≤ maxLen) :
    Calls Try.prog 15 #[c.v] w fun e w' => e = .returned (.tuple #[.string c.key, .string c.rst, .bool (decide c.says)]) ∧ Below w.heap.size w w' := by
  obtain ⟨st, d⟩ := c
  dsimp only at hs
  unfold maxLen at hs
  unfold Ce.v
  dsimp only
  by_cases h0 : st = 0
  · have hn : ¬ Ce.says ⟨st, d⟩ := fun h => h.1 h0
    rw [Ce.key_no hn, Ce.rst_no hn, decide_eq_false hn]
    subst h0
    clear hn
    go_enter Try.func15, Try.ntmps15
    go_wp2
    go_ret3
    exact ⟨rfl, (Below.refl _ _).alloc (Nat.le_refl _) _⟩
  · by_cases h1 : 0 < d.size
    · have hg := n1_get d h1
      have hlt := n1_lt d
      by_cases h8 : n1 d ≤ 8
      · by_cases ht : Tx d
        · have hy : Ce.says ⟨st, d⟩ := ⟨h0, ht, h8⟩
          rw [Ce.key_yes hy, Ce.rst_yes hy, decide_eq_true hy]
          unfold tkey trest
          unfold Tx at ht
          clear hy
          dsimp only
          generalize n1 d = n at *
          have h1' : ¬ (d.size : Int) < 1 := by omega
          have h2' : ¬ (8 : Int) < n := by omega
          have h3' : ¬ (d.size : Int) - 1 < n := by omega
          have hw : IntKind.i64.wrap (1 + (n : Int)) = ((1 + n : Nat) : Int) := by simp [IntKind.wrap, IntKind.signed, IntKind.bits]; omega
          go_enter Try.func15, Try.ntmps15
          go_wp2_with fail
          have g0 : (0 : Int) ≤ ((1 + n : Nat) : Int) := by omega
          have g1 : ((1 + n : Nat) : Int) ≤ (d.size : Int) := by omega
          have g2 : (1 : Int) ≤ ((1 + n : Nat) : Int) := by omega
          go_quiet (fail)
          go_wp2
          go_ret3
          exact ⟨rfl, below_drewN ((Below.refl _ _).alloc (Nat.le_refl _) _) _⟩
        · have hn : ¬ Ce.says ⟨st, d⟩ := fun h => ht h.2.1
          rw [Ce.key_no hn, Ce.rst_no hn, decide_eq_false hn]
          unfold Tx at ht
          clear hn
          generalize n1 d = n at *
          have h1' : ¬ (d.size : Int) < 1 := by omega
          have h2' : ¬ (8 : Int) < n := by omega
          have h3' : (d.size : Int) - 1 < n := by omega
          go_enter Try.func15, Try.ntmps15
          go_wp2
          go_ret3
          exact ⟨rfl, (Below.refl _ _).alloc (Nat.le_refl _) _⟩
      · have hn : ¬ Ce.says ⟨st, d⟩ := fun h => h8 h.2.2
        rw [Ce.key_no hn, Ce.rst_no hn, decide_eq_false hn]
        clear hn
        generalize n1 d = n at *
        have h1' : ¬ (d.size : Int) < 1 := by omega
        have h2' : (8 : Int) < n := by omega
        go_enter Try.func15, Try.ntmps15
        go_wp2
        go_ret3
        exact ⟨rfl, (Below.refl _ _).alloc (Nat.le_refl _) _⟩
    · have hn : ¬ Ce.says ⟨st, d⟩ := fun h => by have := h.2.1; unfold Tx at this; dsimp only at this; omega
      rw [Ce.key_no hn, Ce.rst_no hn, decide_eq_false hn]
      clear hn
      have h1' : (d.size : Int) < 1 := by omega
      go_enter Try.func15, Try.ntmps15
      go_wp2
      go_ret3
      exact ⟨rfl, (Below.refl _ _).alloc (Nat.le_refl _) _⟩
end Go.Proofs.Ytedoechjjcbeeaa
