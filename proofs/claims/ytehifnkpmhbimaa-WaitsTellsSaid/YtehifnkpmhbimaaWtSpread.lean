/- The walks of waits.Spread and of the document's own. -/
import Derived.Test.YtehifnkpmhbimaaWtCheck
import Derived.Test.YtehifnkpmhbimaaWtLib
import Derived.BigRegion
import Derived.Laws.AppendOwnNone
set_option linter.unusedVariables false
set_option linter.unusedSimpArgs false
namespace Go.Proofs.Ytehifnkpmhbimaa
open Go.RowKit

theorem or3 {a b k : Nat} (ha : a < 18446744073709551616) (hb : b < 18446744073709551616) (hk : k < 64) :
    bits .or .u64 (a : Int) (bits .or .u64 (b : Int) (IntKind.u64.wrap (2 ^ k))) = ((a ||| (b ||| 2 ^ k) : Nat) : Int) := by
  have h2 : 2 ^ k < 18446744073709551616 := Nat.pow_lt_pow_right (m := k) (n := 64) (by omega) (by omega)
  have e : IntKind.u64.wrap (2 ^ k) = ((2 ^ k : Nat) : Int) := by
    rw [IntKind.wrap_u64]
    have : ((2 : Int) ^ k) = ((2 ^ k : Nat) : Int) := by simp
    rw [this]
    generalize 2 ^ k = p at h2
    omega
  rw [e, bits_or_u64_nat b (2 ^ k) hb h2, bits_or_u64_nat a _ ha (Nat.or_lt_two_pow (n := 64) hb h2)]

/-- A row as it is being spread: k arcs have been gone over. -/
structure Sp (w : World) (g : Nat) (A : Arcs) (D : Nat → Nat) (n k : Nat) : Prop where
  at_ : ∃ ty cur, Bk w g ty cur ∧ ∀ i, i < n → cur[i]? = some (.int .u64 (A.sp D k i : Nat))
theorem Sp.kept {w w' : World} {g : Nat} {A : Arcs} {D : Nat → Nat} {n k : Nat} (h : Sp w g A D n k) (hb : Below w.heap.size w w') : Sp w' g A D n k := by
  obtain ⟨ty, cur, h1, h2⟩ := h.at_
  exact ⟨ty, cur, h1.kept hb, h2⟩
theorem Sp.step {w : World} {g : Nat} {A : Arcs} {D : Nat → Nat} {n k : Nat} (h : Sp w g A D n k) (hs : A.s k < n) :
    Sp (w.setCell ⟨g, A.s k, none⟩ (.int .u64 ((A.sp D k (A.s k) ||| (D (A.t k) ||| 2 ^ A.t k) : Nat) : Int))) g A D n (k + 1) := by
  obtain ⟨ty, cur, h1, h2⟩ := h.at_
  refine ⟨ty, _, h1.set _ _, fun i hi => ?_⟩
  rw [Array.getElem?_setIfInBounds]
  have hc := h2 i hi
  have hsz : i < cur.size := by
    rcases Nat.lt_or_ge i cur.size with h | h
    · exact h
    · rw [Array.getElem?_eq_none h] at hc; cases hc
  by_cases e : A.s k = i
  · rw [if_pos e, if_pos (by omega)]
    simp only [Arcs.sp]
    rw [if_pos e.symm, ← e]
  · rw [if_neg e, hc]
    simp only [Arcs.sp]
    rw [if_neg (fun e' => e e'.symm)]

set_option maxHeartbeats 2000000 in
theorem spread_good (v va : Value) (n : Nat) (D : Nat → Nat) (A : Arcs) (w : World) (hn : n ≤ 64) (hD : ∀ j, j < n → D j < 18446744073709551616) (hv : Row w w.heap.size .u64 v n (fun i => (D i : Int))) (ha : IsArcs w w.heap.size va A) (hA : A.In n) :
    Calls Try.prog 16 #[v, va] w fun e w' => ∃ v', e = .returned (.tuple #[v', .int .i64 0]) ∧ Row w' w'.heap.size .u64 v' n (fun i => (A.sp D A.m i : Nat)) ∧ Below w.heap.size w w' := by
  have cc := check_any n va A.m (fun i => A.s i) (fun i => A.t i) w (by omega) (by omega) ha
  have fine : Fine n A.m (fun i => A.s i) (fun i => A.t i) := ⟨by omega, by omega, fun i hi => by have := hA i hi; show 0 ≤ ((A.s i : Nat) : Int) ∧ ((A.s i : Nat) : Int) < (n : Int) ∧ 0 ≤ ((A.t i : Nat) : Int) ∧ ((A.t i : Nat) : Int) < (n : Int); omega⟩
  have cl := fun w' (hb : Below w.heap.size w w') => cloneu_any v n (fun i => (D i : Int)) w' hn ((hv.below hb (Nat.le_refl _)).mono hb.size)
  have HA := Lib.hid hA; have HD := Lib.hid hD; have CC := Lib.hid cc; have FI := Lib.hid fine; have CL := Lib.hid cl
  clear cc fine cl hA hD
  obtain ⟨a, c, rfl, _, hv⟩ := hv
  obtain ⟨a', c', rfl, hm, ha⟩ := ha
  have HV := Lib.hid hv; have HR := Lib.hid ha
  have hm' : A.m ≤ 9223372036854775807 := by simp only [maxLen] at hm; omega
  clear hv ha hm
  go_enter Try.func16, Try.ntmps16
  go_wp2_with fail
  refine CC.out.mono ?_
  rintro e w1 ⟨⟨rfl, _⟩ | ⟨_, hbad⟩, hb1⟩
  · have CL1 := Lib.hid (CL.out w1 hb1); have HB1 := Lib.hid hb1
    clear hb1 CC FI CL
    go_wp2_with fail
    refine CL1.out.mono ?_
    rintro e w2 ⟨v', rfl, hmr, hb2⟩
    have HB2 := Lib.hid (below_then HB1.out hb2 HB1.out.size); have SZ := Lib.hid HB1.out.size; have HMR := Lib.hid hmr
    clear hb2 CL1 HB1 hmr
    rcases HMR.out with ⟨a1, c1, rfl, hnil, h0⟩ | ⟨g, cap, cur, ty, rfl, hg, hk, hc⟩
    · have hm0 : A.m = 0 := by
        rcases Nat.eq_zero_or_pos A.m with h | h
        · exact h
        · have := HA.out 0 h; omega
      have hlt : ¬ ((0 : Int) < (A.m : Int)) := by omega
      have FIN := Lib.hid (show Row w2 w2.heap.size .u64 (.slice a1 0 c1) n (fun i => (A.sp D A.m i : Nat)) from ⟨a1, c1, by rw [h0], fun e => ⟨h0, hnil e⟩, fun h => by omega⟩)
      clear hm0
      go_wp2
      go_loopw [21] (fun i wr => i = .int .i64 0 ∧ wr = w2) (fun i _ => 0)
      case atStart => exact ⟨rfl, rfl⟩
      case round =>
        obtain ⟨rfl, rfl⟩ := hrel
        go_wp2
        go_ret2
        exact ⟨_, rfl, FIN.out, HB2.out⟩
    · have S0 := Lib.hid (show Sp w2 g A D n 0 from ⟨ty, cur, hk, fun i hi => hc i hi⟩)
      have hge : w.heap.size ≤ g := Nat.le_trans SZ.out hg
      have HGE := Lib.hid hge
      clear hk hc HMR hg hge
      go_wp2
      go_loopw [21] (fun i wr => ∃ k : Nat, k ≤ A.m ∧ i = .int .i64 k ∧ Sp wr g A D n k ∧ Below w.heap.size w wr) (fun i _ => A.m - (intOf i).toNat)
      case atStart => exact ⟨0, Nat.zero_le _, rfl, S0.out, HB2.out⟩
      case round =>
        clear S0 HB2
        obtain ⟨k, hk, rfl, hsp, hb⟩ := hrel
        have HSP := Lib.hid hsp; have HB := Lib.hid hb
        clear hsp hb
        by_cases hlt : k < A.m
        · obtain ⟨hs, ht⟩ := HA.out k hlt
          obtain ⟨b, off, rfl, hbB, hcell⟩ := HR.out (by omega)
          obtain ⟨bd, od, rfl, hbD, hcd⟩ := HV.out (by omega)
          have q0 : wr.cell? ⟨b, off + k * 2, none⟩ = some (.int .i64 (A.s k)) := by rw [HB.out.cell (p := ⟨b, off + k * 2, none⟩) hbB]; exact (hcell k hlt).1
          have q1 : wr.cell? ⟨b, off + k * 2 + 1, none⟩ = some (.int .i64 (A.t k)) := by rw [HB.out.cell (p := ⟨b, off + k * 2 + 1, none⟩) hbB]; exact (hcell k hlt).2
          have HB3 := Lib.hid (HB.out.alloc HB.out.size (.cells #[.int .i64 (A.s k), .int .i64 (A.t k)] 42))
          have SP3 := Lib.hid (HSP.out.kept ((Below.refl _ wr).alloc (Nat.le_refl _) (.cells #[.int .i64 (A.s k), .int .i64 (A.t k)] 42)))
          have ga : Bk (wr.alloc (.cells #[.int .i64 (A.s k), .int .i64 (A.t k)] 42)) wr.heap.size 42 #[.int .i64 (A.s k), .int .i64 (A.t k)] := Bk.new _ _ _
          have hcd' := hcd (A.t k) ht
          have GA := Lib.hid ga; have HCD := Lib.hid hcd'; have HS := Lib.hid hs; have HT := Lib.hid ht; have OR := Lib.hid (or3 (a := A.sp D k (A.s k)) (b := D (A.t k)) (k := A.t k) (A.sp_lt HD.out HA.out hn k hk _ hs) (HD.out _ ht) (by omega))
          have STEP := Lib.hid (fun w (h : Sp w g A D n k) => h.step hs)
          clear ga hcd hcell hcd' hs ht HSP
          generalize A.s k = sk at *
          generalize A.t k = tk at *
          go_wp2_with fail
          have y0 := GA.out.cell 0; have y1 := GA.out.cell 1
          have y2 := HCD.out
          rw [← HB3.out.cell (p := ⟨bd, od + tk, none⟩) hbD] at y2
          obtain ⟨ty3, cur3, hk3, hc3⟩ := SP3.out.at_
          have y3 := (hk3.cell sk).trans (hc3 sk HS.out)
          have y4 := hk3.fz sk
          have hsk := HS.out; have htk := HT.out
          have NX := Lib.hid (STEP.out _ SP3.out)
          have HB4 := Lib.hid HB3.out
          simp only [List.getElem?_toArray, List.getElem?_cons_zero, List.getElem?_cons_succ] at y0 y1
          clear GA HCD hk3 hc3 HB3 SP3 STEP HB q0 q1
          generalize (wr.alloc (.cells #[.int .i64 sk, .int .i64 tk] 42)) = wa at *
          go_region
          go_wp2
          go_roundw
          case rel =>
            refine ⟨k + 1, by omega, by go_num, ?_, ?_⟩
            · rw [OR.out]; exact NX.out.kept (Below.refl _ _).drew
            · exact (HB4.out.setCell (p := ⟨g, sk, none⟩) HGE.out _).drew
          case measure => simp [intOf]; omega
        · obtain ⟨ty3, cur3, hk3, hc3⟩ := HSP.out.at_
          have FIN := Lib.hid (show Row wr wr.heap.size .u64 (.slice (some ⟨g, 0, none⟩) n cap) n (fun i => (A.sp D A.m i : Nat)) from ⟨_, cap, rfl, (fun e => by cases e), fun _ => ⟨g, 0, rfl, hk3.lt, fun i hi => by rw [Nat.zero_add, hk3.cell, hc3 i hi, show k = A.m by omega]⟩⟩)
          clear hk3 hc3
          go_wp2
          go_ret2
          exact ⟨_, rfl, FIN.out, HB.out⟩
  · exact absurd FI.out hbad

set_option maxHeartbeats 1000000 in
theorem spread_bad (v va : Value) (n m : Nat) (f s t : Nat → Int) (w : World) (hn : n ≤ maxLen) (hv : Row w w.heap.size .u64 v n f) (ha : ArcI w w.heap.size va m s t) (hf : ¬ Fine n m s t) :
    Calls Try.prog 16 #[v, va] w fun e w' => e = .returned (.tuple #[.slice none 0 0, .int .i64 1]) ∧ Below w.heap.size w w' := by
  have cc := check_any n va m s t w (by omega) (by simp only [maxLen] at hn; omega) ha
  have CC := Lib.hid cc; have HF := Lib.hid hf
  clear cc hf
  obtain ⟨a, c, rfl, _, _⟩ := hv
  go_enter Try.func16, Try.ntmps16
  go_wp2_with fail
  refine CC.out.mono ?_
  rintro e w1 ⟨⟨rfl, h⟩ | ⟨rfl, _⟩, hb1⟩
  · exact absurd h HF.out
  · go_wp2
    go_ret2
    exact ⟨rfl, hb1⟩

set_option maxHeartbeats 2000000 in
theorem rspread_good (v va : Value) (n : Nat) (D : Nat → Nat) (A : Arcs) (w : World) (hn : n ≤ 64) (hD : ∀ j, j < n → D j < 18446744073709551616) (hv : Row w w.heap.size .u64 v n (fun i => (D i : Int))) (ha : IsArcs w w.heap.size va A) (hA : A.In n) :
    Calls Try.prog 17 #[v, va] w fun e w' => ∃ v', e = .returned (.tuple #[v', .int .i64 0]) ∧ Row w' w'.heap.size .u64 v' n (fun i => (A.sp D A.m i : Nat)) ∧ Below w.heap.size w w' := by
  have cc := wrong_any n va A.m (fun i => A.s i) (fun i => A.t i) w (by omega) (by omega) ha
  have fine : Fine n A.m (fun i => A.s i) (fun i => A.t i) := ⟨by omega, by omega, fun i hi => by have := hA i hi; show 0 ≤ ((A.s i : Nat) : Int) ∧ ((A.s i : Nat) : Int) < (n : Int) ∧ 0 ≤ ((A.t i : Nat) : Int) ∧ ((A.t i : Nat) : Int) < (n : Int); omega⟩
  have HA := Lib.hid hA; have HD := Lib.hid hD; have CC := Lib.hid cc; have FI := Lib.hid fine; have HV0 := Lib.hid hv
  clear cc fine hA hD
  obtain ⟨i0, hi, hz0, hz1, hz2⟩ := info_parts Try.info41
  obtain ⟨a, c, rfl, hnil, hv⟩ := hv
  obtain ⟨a', c', rfl, hm, ha⟩ := ha
  have HV := Lib.hid hv; have HR := Lib.hid ha; have HN := Lib.hid hnil
  have hm' : A.m ≤ 9223372036854775807 := by simp only [maxLen] at hm; omega
  clear hv ha hm hnil
  go_enter Try.func17, Try.ntmps17
  go_wp2_with fail
  refine CC.out.mono ?_
  rintro e w1 ⟨⟨rfl, _⟩ | ⟨_, hbad⟩, hb1⟩
  · have HB1 := Lib.hid hb1
    have hv1 := (HV0.out.below hb1 (Nat.le_refl _))
    clear hb1 CC FI
    obtain ⟨_, _, e0, _, hv1⟩ := hv1
    injection e0 with e1 e2 e3
    subst e1 e3
    have HV1 := Lib.hid hv1
    clear hv1 e2 HV0
    rcases a with _ | ad
    · obtain ⟨n0, c0⟩ := HN.out rfl
      have hm0 : A.m = 0 := by
        rcases Nat.eq_zero_or_pos A.m with h | h
        · exact h
        · have := HA.out 0 h; omega
      have hlt : ¬ ((0 : Int) < (A.m : Int)) := by omega
      subst n0 c0
      clear hm0
      go_wp2_with (refine wpList_append_own_none rfl _ _ 24 rfl w.heap.size 41 i0 1 Try.underlying24 hi _ 0 [] rfl ⟨rfl, .inl ⟨rfl, rfl⟩⟩ rfl ?_)
      go_loopw [7] (fun i wr => i = .int .i64 0 ∧ wr = w1) (fun i _ => 0)
      case atStart => exact ⟨rfl, rfl⟩
      case round =>
        obtain ⟨rfl, rfl⟩ := hrel
        go_wp2
        go_ret2
        exact ⟨_, rfl, ⟨none, 0, rfl, fun _ => ⟨rfl, rfl⟩, fun h => by omega⟩, HB1.out⟩
    · go_wp2_with (at_builtin; refine wpList_append_own _ rfl _ _ 24 rfl w1.heap.size 41 i0 (.int .u64 0) 1 8 Try.underlying24 hi hz0 hz1 hz2 rfl (by decide) _ _ [] rfl ⟨rfl, .inl ⟨rfl, rfl⟩⟩ ad n c ((List.range n).map fun i => Value.int .u64 (D i)) rfl ?qc1 ?qc2 ?qc3 ?qc4 ?qc5 ?qc6 ?_)
      case qc1 => simp
      case qc2 =>
        intro j u hj
        have hjn : j < n := by
          have := (List.getElem?_eq_some_iff.1 hj).1
          simpa using this
        obtain ⟨b, off, e, _, hc⟩ := HV1.out (by omega)
        obtain rfl := Option.some.inj e
        rw [Addr.add_lit, hc j hjn]
        simpa [hjn] using hj
      case qc3 => intro u hu; obtain ⟨x, _, rfl⟩ := List.mem_map.1 hu; rfl
      case qc4 => unfold maxLen; omega
      case qc5 => omega
      case qc6 => exact Nat.le_refl _
      intro v' w2 hown hgrow hnil'
      have HMR := Lib.hid (show MR w2 w1.heap.size .u64 v' n (fun i => (D i : Int)) from MR.own (by simpa using hown))
      have HB2 := Lib.hid (HB1.out.grown hgrow HB1.out.size (by intro k hk; simp [Value.ownBlock] at hk))
      have SZ := Lib.hid HB1.out.size
      clear hown hgrow hnil' HB1
      rcases HMR.out with ⟨a1, c1, rfl, hnil1, h0⟩ | ⟨g, cap, cur, ty, rfl, hg, hk, hc⟩
      · have hm0 : A.m = 0 := by
          rcases Nat.eq_zero_or_pos A.m with h | h
          · exact h
          · have := HA.out 0 h; omega
        have hlt : ¬ ((0 : Int) < (A.m : Int)) := by omega
        have FIN := Lib.hid (show Row w2 w2.heap.size .u64 (.slice a1 0 c1) n (fun i => (A.sp D A.m i : Nat)) from ⟨a1, c1, by rw [h0], fun e => ⟨h0, hnil1 e⟩, fun h => by omega⟩)
        clear hm0 hnil1
        go_wp2
        go_loopw [7] (fun i wr => i = .int .i64 0 ∧ wr = w2) (fun i _ => 0)
        case atStart => exact ⟨rfl, rfl⟩
        case round =>
          obtain ⟨rfl, rfl⟩ := hrel
          go_wp2
          go_ret2
          exact ⟨_, rfl, FIN.out, HB2.out⟩
      · have S0 := Lib.hid (show Sp w2 g A D n 0 from ⟨ty, cur, hk, fun i hi => hc i hi⟩)
        have hge : w.heap.size ≤ g := Nat.le_trans SZ.out hg
        have HGE := Lib.hid hge
        clear hk hc HMR hg hge
        go_wp2
        go_loopw [7] (fun i wr => ∃ k : Nat, k ≤ A.m ∧ i = .int .i64 k ∧ Sp wr g A D n k ∧ Below w.heap.size w wr) (fun i _ => A.m - (intOf i).toNat)
        case atStart => exact ⟨0, Nat.zero_le _, rfl, S0.out, HB2.out⟩
        case round =>
          clear S0 HB2
          obtain ⟨k, hk, rfl, hsp, hb⟩ := hrel
          have HSP := Lib.hid hsp; have HB := Lib.hid hb
          clear hsp hb
          by_cases hlt : k < A.m
          · obtain ⟨hs, ht⟩ := HA.out k hlt
            obtain ⟨b, off, rfl, hbB, hcell⟩ := HR.out (by omega)
            obtain ⟨bd, od, hsd, hbD, hcd⟩ := HV.out (by omega)
            obtain rfl := Option.some.inj hsd
            have q0 : wr.cell? ⟨b, off + k * 2, none⟩ = some (.int .i64 (A.s k)) := by rw [HB.out.cell (p := ⟨b, off + k * 2, none⟩) hbB]; exact (hcell k hlt).1
            have q1 : wr.cell? ⟨b, off + k * 2 + 1, none⟩ = some (.int .i64 (A.t k)) := by rw [HB.out.cell (p := ⟨b, off + k * 2 + 1, none⟩) hbB]; exact (hcell k hlt).2
            have q1' : wr.cell? ⟨b, off + (k * 2 + 1), none⟩ = some (.int .i64 (A.t k)) := q1
            have hcd' := hcd (A.t k) ht
            have y2 := hcd'
            rw [← HB.out.cell (p := ⟨bd, od + A.t k, none⟩) hbD] at y2
            have HS := Lib.hid hs; have HT := Lib.hid ht; have OR := Lib.hid (or3 (a := A.sp D k (A.s k)) (b := D (A.t k)) (k := A.t k) (A.sp_lt HD.out HA.out hn k hk _ hs) (HD.out _ ht) (by omega))
            obtain ⟨ty3, cur3, hk3, hc3⟩ := HSP.out.at_
            have y3 := (hk3.cell (A.s k)).trans (hc3 (A.s k) HS.out)
            have y4 := hk3.fz (A.s k)
            have NX := Lib.hid ((HSP.out.step hs).kept (Below.refl _ _).drew)
            clear hcd hcell hcd' HSP hk3 hc3
            generalize A.s k = sk at *
            generalize A.t k = tk at *
            go_wp2_with fail
            go_region
            go_wp2
            go_roundw
            case rel =>
              refine ⟨k + 1, by omega, by go_num, ?_, ?_⟩
              · rw [OR.out]; exact NX.out
              · exact (HB.out.setCell (p := ⟨g, sk, none⟩) HGE.out _).drew
            case measure => simp [intOf]; omega
          · obtain ⟨ty3, cur3, hk3, hc3⟩ := HSP.out.at_
            have FIN := Lib.hid (show Row wr wr.heap.size .u64 (.slice (some ⟨g, 0, none⟩) n cap) n (fun i => (A.sp D A.m i : Nat)) from ⟨_, cap, rfl, (fun e => by cases e), fun _ => ⟨g, 0, rfl, hk3.lt, fun i hi => by rw [Nat.zero_add, hk3.cell, hc3 i hi, show k = A.m by omega]⟩⟩)
            clear hk3 hc3
            go_wp2
            go_ret2
            exact ⟨_, rfl, FIN.out, HB.out⟩
  · exact absurd FI.out hbad

set_option maxHeartbeats 1000000 in
theorem rspread_bad (v va : Value) (n m : Nat) (f s t : Nat → Int) (w : World) (hn : n ≤ maxLen) (hv : Row w w.heap.size .u64 v n f) (ha : ArcI w w.heap.size va m s t) (hf : ¬ Fine n m s t) :
    Calls Try.prog 17 #[v, va] w fun e w' => e = .returned (.tuple #[.slice none 0 0, .int .i64 1]) ∧ Below w.heap.size w w' := by
  have cc := wrong_any n va m s t w (by omega) (by simp only [maxLen] at hn; omega) ha
  have CC := Lib.hid cc; have HF := Lib.hid hf
  clear cc hf
  obtain ⟨a, c, rfl, _, _⟩ := hv
  go_enter Try.func17, Try.ntmps17
  go_wp2_with fail
  refine CC.out.mono ?_
  rintro e w1 ⟨⟨rfl, h⟩ | ⟨rfl, _⟩, hb1⟩
  · exact absurd h HF.out
  · go_wp2
    go_ret2
    exact ⟨rfl, hb1⟩
end Go.Proofs.Ytehifnkpmhbimaa
