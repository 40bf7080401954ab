/- The walk of NodeWays. -/
import Derived.Test.YtedoechjjcbeeaaNodAwake
set_option linter.unusedVariables false
set_option linter.unusedSimpArgs false
namespace Go.Proofs.Ytedoechjjcbeeaa
open Go.RowKit

theorem dat_size (key rest : ByteArray) : (dat key rest).size = 1 + key.size + rest.size := by
  unfold dat Oct.text
  simp only [ByteArray.size_append]
  rfl
theorem dat_says (key rest : ByteArray) (h : key.size ≤ 8) : Tx (dat key rest) ∧ n1 (dat key rest) = key.size ∧ tkey (dat key rest) = key ∧ trest (dat key rest) = rest := by
  have hz := dat_size key rest
  have h1 : (⟨#[UInt8.ofNat key.size]⟩ : ByteArray).size = 1 := rfl
  have h2 : ((⟨#[UInt8.ofNat key.size]⟩ : ByteArray) ++ key).size = 1 + key.size := by rw [ByteArray.size_append]; rfl
  have e1 : (dat key rest).extract 0 (1 + key.size) = ⟨#[UInt8.ofNat key.size]⟩ ++ key := by
    have := Oct.take_app ((⟨#[UInt8.ofNat key.size]⟩ : ByteArray) ++ key) rest
    rw [h2] at this
    exact this
  have e2 : (dat key rest).extract 0 1 = ⟨#[UInt8.ofNat key.size]⟩ := by
    have := Oct.take_app (⟨#[UInt8.ofNat key.size]⟩ : ByteArray) key
    rw [h1, ← e1, ex_ex5 _ _ _ _ _ (by omega)] at this
    exact this
  have hn : n1 (dat key rest) = key.size := by
    unfold n1
    rw [e2]
    have : key.size = 0 ∨ key.size = 1 ∨ key.size = 2 ∨ key.size = 3 ∨ key.size = 4 ∨ key.size = 5 ∨ key.size = 6 ∨ key.size = 7 ∨ key.size = 8 := by omega
    show Oct.val [UInt8.ofNat key.size] = key.size
    simp [Oct.val]; omega
  refine ⟨by unfold Tx; omega, hn, ?_, ?_⟩
  · unfold tkey
    rw [hn]
    have := Oct.drop_app (⟨#[UInt8.ofNat key.size]⟩ : ByteArray) key
    rw [h1, h2, ← e1, ex_ex5 _ _ _ _ _ (by omega)] at this
    simpa using this
  · unfold trest
    rw [hn]
    have := Oct.drop_app ((⟨#[UInt8.ofNat key.size]⟩ : ByteArray) ++ key) rest
    rw [h2] at this
    exact this
theorem ce_says (st : Int) (key rest : ByteArray) (h0 : st ≠ 0) (h : key.size ≤ 8) : Ce.says ⟨st, dat key rest⟩ ∧ Ce.key ⟨st, dat key rest⟩ = key ∧ Ce.rst ⟨st, dat key rest⟩ = rest := by
  obtain ⟨h1, h2, h3, h4⟩ := dat_says key rest h
  have hs : Ce.says ⟨st, dat key rest⟩ := ⟨h0, h1, by show n1 (dat key rest) ≤ 8; omega⟩
  exact ⟨hs, by rw [Ce.key_yes hs]; exact h3, by rw [Ce.rst_yes hs]; exact h4⟩
theorem inner_says (key : ByteArray) (child : Int) (h : innerOk key child) :
    Ce.says ⟨1, dat key (Oct.str child.toNat 4)⟩ ∧ Ce.key ⟨1, dat key (Oct.str child.toNat 4)⟩ = key ∧ ((Ce.child ⟨1, dat key (Oct.str child.toNat 4)⟩ : Nat) : Int) = child ∧ (dat key (Oct.str child.toNat 4)).size ≤ maxLen := by
  obtain ⟨h1, h2, h3⟩ := h
  obtain ⟨a, b, c⟩ := ce_says 1 key (Oct.str child.toNat 4) (by decide) h1
  have hz := Oct.str_size child.toNat 4
  have hv := Oct.sval_str child.toNat 4 (by omega)
  refine ⟨a, b, ?_, by rw [dat_size, hz]; unfold maxLen; omega⟩
  rw [child_said _ ⟨a, by rw [c, hz], by rw [c, hv]; omega, by rw [c, hv]; omega⟩, c, hv]
  omega
set_option maxRecDepth 100000 in
set_option maxHeartbeats 2000000 in
theorem walk_NodeWays (key val : ByteArray) (child : Int) (w : World) (hk : key.size ≤ maxLen) (hv : val.size ≤ maxLen) (hc1 : -9223372036854775808 ≤ child) (hc2 : child ≤ 9223372036854775807) :
    Calls Try.prog 8 #[.string key, .string val, .int .i64 child] w fun e w' => e = .returned (.bool true) ∧ Below w.heap.size w w' := by
  have CA := Lib.hid awake_any
  have CL := Lib.hid (fun w => leaf_any key val 2 w hk hv)
  have CI := Lib.hid (fun w => inner_any key child w hk)
  unfold maxLen at hk hv
  have hE := ba_empty5 key
  go_enter Try.func8, Try.ntmps8
  go_wp2_with fail
  refine (CA.out _).mono ?_
  rintro e w2 ⟨rfl, hb2⟩
  have B2 := Lib.hid hb2
  clear hb2 CA
  by_cases h : leafOk key val 2
  · obtain ⟨hd1, hd2, hd3⟩ := ce_says 2 key val (by decide) h.2.1
    have hd4 : (dat key val).size ≤ maxLen := by rw [dat_size]; have := h.2.1; have := h.2.2.1; unfold maxLen; omega
    unfold leafC leafE at CL
    rw [if_pos h, if_pos h] at CL
    unfold Ce.v at CL
    have ck := fun w => key_any ⟨2, dat key val⟩ w hd4
    rw [decide_eq_true hd1, hd2, hd3] at ck
    unfold Ce.v at ck
    dsimp only at ck CL
    have CK := Lib.hid ck
    clear ck hd1 hd2 hd3 hd4 h hE
    generalize dat key val = D at *
    go_wp2_with fail
    refine (CL.out _).mono ?_
    rintro e w3 ⟨rfl, hb3⟩
    have b3 := below_then B2.out hb3 B2.out.size
    have B3 := Lib.hid (b3.alloc b3.size (.cells #[.int .i64 2, .string D] 23))
    have K3 := Lib.hid (Bk.new w3 23 #[.int .i64 2, .string D])
    clear hb3 b3 CL B2
    go_wp2_with fail
    refine (CK.out _).mono ?_
    rintro e w5 ⟨rfl, hb5⟩
    have c0 := (K3.out.kept hb5).cell 0
    simp only [List.getElem?_toArray, List.getElem?_cons_zero] at c0
    have B5 := Lib.hid (below_then B3.out hb5 B3.out.size)
    clear hb5 CK B3 K3
    · by_cases hi : innerOk key child
      · obtain ⟨hd1, hd2, hd3, hd4⟩ := inner_says key child hi
        unfold innerC innerE at CI
        rw [if_pos hi, if_pos hi] at CI
        unfold Ce.v at CI
        have ck := fun w => key_any ⟨1, dat key (Oct.str child.toNat 4)⟩ w hd4
        have ch := fun w => child_any ⟨1, dat key (Oct.str child.toNat 4)⟩ w hd4
        rw [decide_eq_true hd1, hd2] at ck
        rw [hd3] at ch
        unfold Ce.v at ck ch
        dsimp only at ck ch CI
        have CK2 := Lib.hid ck; have CH := Lib.hid ch
        clear ck ch hd1 hd2 hd3 hd4
        generalize dat key (Oct.str child.toNat 4) = D2 at *
        generalize Ce.rst ⟨1, D2⟩ = R2 at *
        clear hi
        go_wp2_with fail
        refine (CI.out _).mono ?_
        rintro e w6 ⟨rfl, hb6⟩
        have b6 := below_then B5.out hb6 B5.out.size
        have B6 := Lib.hid (b6.alloc b6.size (.cells #[.int .i64 1, .string D2] 23))
        have K6 := Lib.hid (Bk.new w6 23 #[.int .i64 1, .string D2])
        clear hb6 b6 CI B5
        go_wp2_with fail
        refine (CK2.out _).mono ?_
        rintro e w7 ⟨rfl, hb7⟩
        have k7 := K6.out.kept hb7
        have c0 := k7.cell 0; have c1 := k7.cell 1
        simp only [List.getElem?_toArray, List.getElem?_cons_zero, List.getElem?_cons_succ] at c0 c1
        have B7 := Lib.hid (below_then B6.out hb7 B6.out.size)
        have K7 := Lib.hid k7
        clear hb7 CK2 B6 k7 K6
        go_wp2_with fail
        refine (CH.out _).mono ?_
        rintro e w8 ⟨rfl, hb8⟩
        have k8 := K7.out.kept hb8
        have c2 := k8.cell 0
        simp only [List.getElem?_toArray, List.getElem?_cons_zero] at c2
        have B8 := Lib.hid (below_then B7.out hb8 B7.out.size)
        clear hb8 CH B7 k8 c0 c1 K7
        go_wp2
        go_ret
        exact ⟨rfl, B8.out⟩
      · unfold innerC innerE at CI
        rw [if_neg hi, if_neg hi] at CI
        unfold Ce.v at CI
        dsimp only at CI
        go_wp2_with fail
        refine (CI.out _).mono ?_
        rintro e w6 ⟨rfl, hb6⟩
        have b6 := below_then B5.out hb6 B5.out.size
        have B6 := Lib.hid (b6.alloc b6.size (.cells #[.int .i64 0, .string ⟨#[]⟩] 23))
        clear hb6 b6 CI B5
        by_cases a1 : (8 : Int) < key.size
        · clear hi
          first
            | (exfalso; omega)
            | (go_wp2
               go_ret
               exact ⟨rfl, B6.out⟩)
        · by_cases a2 : child < 1
          · clear hi
            first
              | (exfalso; omega)
              | (go_wp2
                 go_ret
                 exact ⟨rfl, B6.out⟩)
          · have a3 : (1024 : Int) ≤ child := by
              by_cases a3 : (1024 : Int) ≤ child
              · exact a3
              · exact absurd ⟨by omega, by omega, by omega⟩ hi
            clear hi
            first
              | (exfalso; omega)
              | (go_wp2
                 go_ret
                 exact ⟨rfl, B6.out⟩)
  · unfold leafC leafE at CL
    rw [if_neg h, if_neg h] at CL
    unfold Ce.v at CL
    dsimp only at CL
    go_wp2_with fail
    refine (CL.out _).mono ?_
    rintro e w3 ⟨rfl, hb3⟩
    have b3 := below_then B2.out hb3 B2.out.size
    have B5 := Lib.hid (b3.alloc b3.size (.cells #[.int .i64 0, .string ⟨#[]⟩] 23))
    clear hb3 b3 CL B2
    by_cases a1 : key.size = 0
    · rw [decide_eq_true a1] at hE
      clear a1 h
      · by_cases hi : innerOk key child
        · obtain ⟨hd1, hd2, hd3, hd4⟩ := inner_says key child hi
          unfold innerC innerE at CI
          rw [if_pos hi, if_pos hi] at CI
          unfold Ce.v at CI
          have ck := fun w => key_any ⟨1, dat key (Oct.str child.toNat 4)⟩ w hd4
          have ch := fun w => child_any ⟨1, dat key (Oct.str child.toNat 4)⟩ w hd4
          rw [decide_eq_true hd1, hd2] at ck
          rw [hd3] at ch
          unfold Ce.v at ck ch
          dsimp only at ck ch CI
          have CK2 := Lib.hid ck; have CH := Lib.hid ch
          clear ck ch hd1 hd2 hd3 hd4
          generalize dat key (Oct.str child.toNat 4) = D2 at *
          generalize Ce.rst ⟨1, D2⟩ = R2 at *
          clear hi
          go_wp2_with fail
          refine (CI.out _).mono ?_
          rintro e w6 ⟨rfl, hb6⟩
          have b6 := below_then B5.out hb6 B5.out.size
          have B6 := Lib.hid (b6.alloc b6.size (.cells #[.int .i64 1, .string D2] 23))
          have K6 := Lib.hid (Bk.new w6 23 #[.int .i64 1, .string D2])
          clear hb6 b6 CI B5
          go_wp2_with fail
          refine (CK2.out _).mono ?_
          rintro e w7 ⟨rfl, hb7⟩
          have k7 := K6.out.kept hb7
          have c0 := k7.cell 0; have c1 := k7.cell 1
          simp only [List.getElem?_toArray, List.getElem?_cons_zero, List.getElem?_cons_succ] at c0 c1
          have B7 := Lib.hid (below_then B6.out hb7 B6.out.size)
          have K7 := Lib.hid k7
          clear hb7 CK2 B6 k7 K6
          go_wp2_with fail
          refine (CH.out _).mono ?_
          rintro e w8 ⟨rfl, hb8⟩
          have k8 := K7.out.kept hb8
          have c2 := k8.cell 0
          simp only [List.getElem?_toArray, List.getElem?_cons_zero] at c2
          have B8 := Lib.hid (below_then B7.out hb8 B7.out.size)
          clear hb8 CH B7 k8 c0 c1 K7
          go_wp2
          go_ret
          exact ⟨rfl, B8.out⟩
        · unfold innerC innerE at CI
          rw [if_neg hi, if_neg hi] at CI
          unfold Ce.v at CI
          dsimp only at CI
          go_wp2_with fail
          refine (CI.out _).mono ?_
          rintro e w6 ⟨rfl, hb6⟩
          have b6 := below_then B5.out hb6 B5.out.size
          have B6 := Lib.hid (b6.alloc b6.size (.cells #[.int .i64 0, .string ⟨#[]⟩] 23))
          clear hb6 b6 CI B5
          by_cases a1 : (8 : Int) < key.size
          · clear hi
            first
              | (exfalso; omega)
              | (go_wp2
                 go_ret
                 exact ⟨rfl, B6.out⟩)
          · by_cases a2 : child < 1
            · clear hi
              first
                | (exfalso; omega)
                | (go_wp2
                   go_ret
                   exact ⟨rfl, B6.out⟩)
            · have a3 : (1024 : Int) ≤ child := by
                by_cases a3 : (1024 : Int) ≤ child
                · exact a3
                · exact absurd ⟨by omega, by omega, by omega⟩ hi
              clear hi
              first
                | (exfalso; omega)
                | (go_wp2
                   go_ret
                   exact ⟨rfl, B6.out⟩)
    · rw [decide_eq_false a1] at hE
      by_cases a2 : (8 : Int) < key.size
      · have a2' : ¬ (key.size : Int) ≤ 8 := by omega
        clear a1 h
        · by_cases hi : innerOk key child
          · obtain ⟨hd1, hd2, hd3, hd4⟩ := inner_says key child hi
            unfold innerC innerE at CI
            rw [if_pos hi, if_pos hi] at CI
            unfold Ce.v at CI
            have ck := fun w => key_any ⟨1, dat key (Oct.str child.toNat 4)⟩ w hd4
            have ch := fun w => child_any ⟨1, dat key (Oct.str child.toNat 4)⟩ w hd4
            rw [decide_eq_true hd1, hd2] at ck
            rw [hd3] at ch
            unfold Ce.v at ck ch
            dsimp only at ck ch CI
            have CK2 := Lib.hid ck; have CH := Lib.hid ch
            clear ck ch hd1 hd2 hd3 hd4
            generalize dat key (Oct.str child.toNat 4) = D2 at *
            generalize Ce.rst ⟨1, D2⟩ = R2 at *
            clear hi
            go_wp2_with fail
            refine (CI.out _).mono ?_
            rintro e w6 ⟨rfl, hb6⟩
            have b6 := below_then B5.out hb6 B5.out.size
            have B6 := Lib.hid (b6.alloc b6.size (.cells #[.int .i64 1, .string D2] 23))
            have K6 := Lib.hid (Bk.new w6 23 #[.int .i64 1, .string D2])
            clear hb6 b6 CI B5
            go_wp2_with fail
            refine (CK2.out _).mono ?_
            rintro e w7 ⟨rfl, hb7⟩
            have k7 := K6.out.kept hb7
            have c0 := k7.cell 0; have c1 := k7.cell 1
            simp only [List.getElem?_toArray, List.getElem?_cons_zero, List.getElem?_cons_succ] at c0 c1
            have B7 := Lib.hid (below_then B6.out hb7 B6.out.size)
            have K7 := Lib.hid k7
            clear hb7 CK2 B6 k7 K6
            go_wp2_with fail
            refine (CH.out _).mono ?_
            rintro e w8 ⟨rfl, hb8⟩
            have k8 := K7.out.kept hb8
            have c2 := k8.cell 0
            simp only [List.getElem?_toArray, List.getElem?_cons_zero] at c2
            have B8 := Lib.hid (below_then B7.out hb8 B7.out.size)
            clear hb8 CH B7 k8 c0 c1 K7
            go_wp2
            go_ret
            exact ⟨rfl, B8.out⟩
          · unfold innerC innerE at CI
            rw [if_neg hi, if_neg hi] at CI
            unfold Ce.v at CI
            dsimp only at CI
            go_wp2_with fail
            refine (CI.out _).mono ?_
            rintro e w6 ⟨rfl, hb6⟩
            have b6 := below_then B5.out hb6 B5.out.size
            have B6 := Lib.hid (b6.alloc b6.size (.cells #[.int .i64 0, .string ⟨#[]⟩] 23))
            clear hb6 b6 CI B5
            by_cases a1 : (8 : Int) < key.size
            · clear hi
              first
                | (exfalso; omega)
                | (go_wp2
                   go_ret
                   exact ⟨rfl, B6.out⟩)
            · by_cases a2 : child < 1
              · clear hi
                first
                  | (exfalso; omega)
                  | (go_wp2
                     go_ret
                     exact ⟨rfl, B6.out⟩)
              · have a3 : (1024 : Int) ≤ child := by
                  by_cases a3 : (1024 : Int) ≤ child
                  · exact a3
                  · exact absurd ⟨by omega, by omega, by omega⟩ hi
                clear hi
                first
                  | (exfalso; omega)
                  | (go_wp2
                     go_ret
                     exact ⟨rfl, B6.out⟩)
      · have a2' : (key.size : Int) ≤ 8 := by omega
        have a3 : ¬ (val.size : Int) ≤ 20 := fun k => h ⟨by omega, by omega, by omega, .inr rfl⟩
        clear a1 h a2
        · by_cases hi : innerOk key child
          · obtain ⟨hd1, hd2, hd3, hd4⟩ := inner_says key child hi
            unfold innerC innerE at CI
            rw [if_pos hi, if_pos hi] at CI
            unfold Ce.v at CI
            have ck := fun w => key_any ⟨1, dat key (Oct.str child.toNat 4)⟩ w hd4
            have ch := fun w => child_any ⟨1, dat key (Oct.str child.toNat 4)⟩ w hd4
            rw [decide_eq_true hd1, hd2] at ck
            rw [hd3] at ch
            unfold Ce.v at ck ch
            dsimp only at ck ch CI
            have CK2 := Lib.hid ck; have CH := Lib.hid ch
            clear ck ch hd1 hd2 hd3 hd4
            generalize dat key (Oct.str child.toNat 4) = D2 at *
            generalize Ce.rst ⟨1, D2⟩ = R2 at *
            clear hi
            go_wp2_with fail
            refine (CI.out _).mono ?_
            rintro e w6 ⟨rfl, hb6⟩
            have b6 := below_then B5.out hb6 B5.out.size
            have B6 := Lib.hid (b6.alloc b6.size (.cells #[.int .i64 1, .string D2] 23))
            have K6 := Lib.hid (Bk.new w6 23 #[.int .i64 1, .string D2])
            clear hb6 b6 CI B5
            go_wp2_with fail
            refine (CK2.out _).mono ?_
            rintro e w7 ⟨rfl, hb7⟩
            have k7 := K6.out.kept hb7
            have c0 := k7.cell 0; have c1 := k7.cell 1
            simp only [List.getElem?_toArray, List.getElem?_cons_zero, List.getElem?_cons_succ] at c0 c1
            have B7 := Lib.hid (below_then B6.out hb7 B6.out.size)
            have K7 := Lib.hid k7
            clear hb7 CK2 B6 k7 K6
            go_wp2_with fail
            refine (CH.out _).mono ?_
            rintro e w8 ⟨rfl, hb8⟩
            have k8 := K7.out.kept hb8
            have c2 := k8.cell 0
            simp only [List.getElem?_toArray, List.getElem?_cons_zero] at c2
            have B8 := Lib.hid (below_then B7.out hb8 B7.out.size)
            clear hb8 CH B7 k8 c0 c1 K7
            go_wp2
            go_ret
            exact ⟨rfl, B8.out⟩
          · unfold innerC innerE at CI
            rw [if_neg hi, if_neg hi] at CI
            unfold Ce.v at CI
            dsimp only at CI
            go_wp2_with fail
            refine (CI.out _).mono ?_
            rintro e w6 ⟨rfl, hb6⟩
            have b6 := below_then B5.out hb6 B5.out.size
            have B6 := Lib.hid (b6.alloc b6.size (.cells #[.int .i64 0, .string ⟨#[]⟩] 23))
            clear hb6 b6 CI B5
            by_cases a1 : (8 : Int) < key.size
            · clear hi
              first
                | (exfalso; omega)
                | (go_wp2
                   go_ret
                   exact ⟨rfl, B6.out⟩)
            · by_cases a2 : child < 1
              · clear hi
                first
                  | (exfalso; omega)
                  | (go_wp2
                     go_ret
                     exact ⟨rfl, B6.out⟩)
              · have a3 : (1024 : Int) ≤ child := by
                  by_cases a3 : (1024 : Int) ≤ child
                  · exact a3
                  · exact absurd ⟨by omega, by omega, by omega⟩ hi
                clear hi
                first
                  | (exfalso; omega)
                  | (go_wp2
                     go_ret
                     exact ⟨rfl, B6.out⟩)
end Go.Proofs.Ytedoechjjcbeeaa
