/- The walks of WaitsVictims and WaitsSpread. -/
import Derived.Test.YtehifnkpmhbimaaWtAwake
set_option linter.unusedVariables false
set_option linter.unusedSimpArgs false
namespace Go.Proofs.Ytehifnkpmhbimaa
open Go.RowKit

set_option maxHeartbeats 2000000 in
theorem victims_none (a : Option Addr) (c : Nat) (w : World) :
    Calls Try.prog 6 #[.slice a 0 c] w fun e w' => e = .returned (.bool true) ∧ Below w.heap.size w w' := by
  have CA := Lib.hid (awake_any w)
  have CV := Lib.hid (fun w => victim_none a c w)
  go_enter Try.func6, Try.ntmps6
  go_wp2_with fail
  refine CA.out.mono ?_
  rintro e w1 ⟨rfl, hb1⟩
  go_wp2_with fail
  refine (CV.out w1).mono ?_
  rintro e w2 ⟨rfl, hb2⟩
  have B := Lib.hid (below_then hb1 hb2 hb1.size)
  clear hb1 hb2
  go_wp2
  go_ret
  exact ⟨rfl, B.out⟩

set_option maxHeartbeats 2000000 in
theorem victims_some (v : Value) (m : Nat) (f : Nat → Int) (w : World) (hm0 : 0 < m) (hm : m ≤ maxLen) (h : Row w w.heap.size .i64 v m f) :
    Calls Try.prog 6 #[v] w fun e w' => e = .returned (.bool true) ∧ Below w.heap.size w w' := by
  have CA := Lib.hid (awake_any w)
  have CV := Lib.hid (fun (w' : World) (hb : Below w.heap.size w w') => victim_some v m f w' hm0 hm ((h.below hb (Nat.le_refl _)).mono hb.size))
  have GE := Lib.hid (fun j (hj : j < m) => mxi_ge f (m - 1) j (by omega))
  have IN := Lib.hid (mxi_in f (m - 1))
  obtain ⟨a, c, rfl, _, h⟩ := h
  obtain ⟨b, off, rfl, hbB, hc⟩ := h hm0
  have HC := Lib.hid hc
  have hm' : m ≤ 9223372036854775807 := by simp only [maxLen] at hm; omega
  have hne : ((m : Int) == 0) = false := by simp; omega
  clear hm hc
  generalize mxi f (m - 1) = mx at *
  go_enter Try.func6, Try.ntmps6
  go_wp2_with fail
  refine CA.out.mono ?_
  rintro e w1 ⟨rfl, hb1⟩
  go_wp2_with fail
  refine (CV.out w1 hb1).mono ?_
  rintro e w2 ⟨rfl, hb2⟩
  have B := Lib.hid (below_then hb1 hb2 hb1.size)
  clear hb1 hb2 CV CA
  go_wp2
  clear hne
  go_loopw [5, 26] (fun fd i wr => ∃ (k : Nat) (bb : Bool), k ≤ m ∧ i = .int .i64 k ∧ fd = .bool bb ∧ (bb = false → ∀ j, j < k → f j ≠ mx) ∧ wr = w2) (fun _ i _ => m - (intOf i).toNat)
  case atStart => exact ⟨0, false, Nat.zero_le _, rfl, rfl, (fun _ j hj => absurd hj (Nat.not_lt_zero _)), rfl⟩
  case round =>
    obtain ⟨k, bb, hk, rfl, rfl, hno, rfl⟩ := hrel
    have NO := Lib.hid hno
    clear hno
    by_cases hlt : k < m
    · have q0 : wr.cell? ⟨b, off + k, none⟩ = some (.int .i64 (f k)) := by rw [B.out.cell (p := ⟨b, off + k, none⟩) hbB]; exact HC.out k hlt
      have ge := GE.out k hlt
      have NX := Lib.hid (fun (hq : ¬ f k = mx) (hb : bb = false) j (hj : j < k + 1) => show f j ≠ mx by
        rcases Nat.lt_or_ge j k with h1 | h1
        · exact NO.out hb j h1
        · obtain rfl : j = k := by omega
          exact hq)
      clear NO
      generalize f k = fk at *
      have hle : ¬ mx < fk := by omega
      rcases bb with _ | _
      · by_cases hq : fk = mx
        · subst hq
          go_wp2
          go_roundw
          case rel => exact ⟨k + 1, true, by omega, by go_num, rfl, (fun h => by cases h), trivial⟩
          case measure => simp [intOf]; omega
        · have NX1 := Lib.hid (NX.out hq rfl)
          have hq' : (fk == mx) = false := by simpa using hq
          go_wp2
          go_roundw
          case rel => exact ⟨k + 1, false, by omega, by go_num, rfl, (fun _ => NX1.out), trivial⟩
          case measure => simp [intOf]; omega
      · go_wp2
        go_roundw
        case rel => exact ⟨k + 1, true, by omega, by go_num, rfl, (fun h => by cases h), trivial⟩
        case measure => simp [intOf]; omega
    · obtain rfl : bb = true := by
        rcases bb with _ | _
        · obtain ⟨j, h1, h2⟩ := IN.out
          exact absurd h2 (NO.out rfl j (by omega))
        · rfl
      clear NO
      go_wp2
      go_ret
      exact ⟨rfl, B.out⟩

theorem walk_WaitsVictims (v : Value) (q : Slq) (w : World) (h : v = .slice q.a q.len q.cap ∧ q.len ≤ q.cap ∧ q.cap ≤ maxLen ∧ ∃ f : Nat → Int, Row w w.heap.size .i64 v q.len f ∧ ∀ i, i < q.len → -9223372036854775808 ≤ f i ∧ f i ≤ 9223372036854775807) :
    Calls Try.prog 6 #[v] w fun e w' => e = .returned (.bool true) ∧ Below w.heap.size w w' := by
  obtain ⟨hv, h1, h2, f, hr, _⟩ := h
  rcases Nat.eq_zero_or_pos q.len with h0 | h0
  · rw [hv, h0]; exact victims_none _ _ w
  · exact victims_some v q.len f w h0 (Nat.le_trans h1 h2) hr

/-- A copy of a slice that came in. -/
theorem wpList_copy_bits {ops : Array Oper} {rest : List Oper} {o : Oper} {a : Act} {w : World} {Q : Exit → Act → World → Prop} (hgd : o.guard = none) (s x : Operand)
    (ho : o.op = .call { callee := .builtin .append, args := #[s, x], argTypes := #[24, 24] }) (v : Value) (n : Nat) (f : Nat → Int) (hs : a.eval s = .slice none 0 0) (hx : a.eval x = v)
    (hv : Row w w.heap.size .u64 v n f) (hn : n * 8 ≤ 140737488351232)
    (h : ∀ v' w', MR w' w.heap.size .u64 v' n f → Below w.heap.size w w' → wpList Try.prog ops Q rest (a.put o.dst v') w') : wpList Try.prog ops Q (o :: rest) a w := by
  obtain ⟨i0, hi, hz0, hz1, hz2⟩ := info_parts Try.info41
  obtain ⟨ad, c, rfl, hnil, hv⟩ := hv
  rcases ad with _ | ad
  · obtain ⟨rfl, rfl⟩ := hnil rfl
    exact wpList_append_own_none hgd s x 24 ho w.heap.size 41 i0 1 Try.underlying24 hi _ 0 [] hs ⟨rfl, .inl ⟨rfl, rfl⟩⟩ hx (h _ _ (.inl ⟨none, 0, rfl, fun _ => rfl, rfl⟩) (Below.refl _ _))
  · refine wpList_append_own _ hgd s x 24 ho w.heap.size 41 i0 (.int .u64 0) 1 8 Try.underlying24 hi hz0 hz1 hz2 rfl (by decide) _ 0 [] hs ⟨rfl, .inl ⟨rfl, rfl⟩⟩ ad n c ((List.range n).map fun i => Value.int .u64 (f i)) hx ?_ ?_ ?_ ?_ ?_ (Nat.le_refl _) ?_
    · simp
    · intro j u hj
      have hjn : j < n := by
        have := (List.getElem?_eq_some_iff.1 hj).1
        simpa using this
      obtain ⟨b, off, e, _, hc⟩ := hv (by omega)
      obtain rfl := Option.some.inj e
      rw [Addr.add_lit, hc j hjn]
      simpa [hjn] using hj
    · intro u hu; obtain ⟨x, _, rfl⟩ := List.mem_map.1 hu; rfl
    · unfold maxLen; omega
    · omega
    · intro v' w2 hown hgrow hnil'
      exact h v' w2 (MR.own (by simpa using hown)) ((Below.refl _ w).grown hgrow (Nat.le_refl _) (by intro k hk; simp [Value.ownBlock] at hk))

theorem nat_row {w : World} {B : Nat} {v : Value} {n : Nat} {f : Nat → Int} (h : Row w B .u64 v n f) (hf : ∀ i, i < n → 0 ≤ f i ∧ f i < 18446744073709551616) : Row w B .u64 v n (fun i => ((f i).toNat : Int)) :=
  h.congr fun i hi => by have := hf i hi; omega

set_option maxHeartbeats 4000000 in
theorem spread_law (v va : Value) (n m : Nat) (f s t : Nat → Int) (w : World) (hn : n * 8 ≤ 140737488351232) (hf : ∀ i, i < n → 0 ≤ f i ∧ f i < 18446744073709551616) (hv : Row w w.heap.size .u64 v n f) (ha : ArcI w w.heap.size va m s t) :
    Calls Try.prog 4 #[v, va] w fun e w' => e = .returned (.bool true) ∧ Below w.heap.size w w' := by
  have CA := Lib.hid (awake_any w)
  have HV := Lib.hid (fun (w' : World) (hb : Below w.heap.size w w') => show Row w' w'.heap.size .u64 v n f from (hv.below hb (Nat.le_refl _)).mono hb.size)
  have HA := Lib.hid (fun (w' : World) (hb : Below w.heap.size w w') => show ArcI w' w'.heap.size va m s t from (ha.below hb (Nat.le_refl _)).mono hb.size)
  have HF := Lib.hid hf
  have hml : n ≤ maxLen := by unfold maxLen; omega
  have CS := Lib.hid (fun w' u f g (h1 : Row w' w'.heap.size .u64 v n f) (h2 : Row w' w'.heap.size .u64 u n g) => sameBits_any u v n n g f w' h2 h1 hml)
  have CS2 := Lib.hid (fun w' u u' f g (h1 : Row w' w'.heap.size .u64 u n f) (h2 : Row w' w'.heap.size .u64 u' n g) => sameBits_any u u' n n f g w' h1 h2 hml)
  have HN := Lib.hid hn
  by_cases fine : Fine n m s t
  · have hn64 : n ≤ 64 := by have := fine.2.1; omega
    have AR := Lib.hid (fun (w' : World) (hb : Below w.heap.size w w') => fine.arcs (HA.out w' hb))
    have IN := Lib.hid (show (arcsOf m s t).In n from by have := fine.inn; rwa [Int.toNat_natCast] at this)
    have SP := Lib.hid (fun (w' : World) u (hb : Below w.heap.size w w') (hu : Row w' w'.heap.size .u64 u n f) => spread_good u va n (fun i => (f i).toNat) (arcsOf m s t) w' hn64 (fun j hj => by have := HF.out j hj; omega) (nat_row hu HF.out) (AR.out w' hb) IN.out)
    have RS := Lib.hid (fun (w' : World) (hb : Below w.heap.size w w') => rspread_good v va n (fun i => (f i).toNat) (arcsOf m s t) w' hn64 (fun j hj => by have := HF.out j hj; omega) (nat_row (HV.out w' hb) HF.out) (AR.out w' hb) IN.out)
    clear fine ha hv hf AR IN hn hml
    go_enter Try.func4, Try.ntmps4
    go_wp2_with fail
    refine CA.out.mono ?_
    rintro e w1 ⟨rfl, hb1⟩
    have B1 := Lib.hid hb1
    clear hb1
    go_wp2_with (at_builtin; refine wpList_copy_bits rfl _ _ rfl v n f rfl rfl (HV.out _ B1.out) HN.out ?_)
    intro own w2 hmr hb2
    have OWN := Lib.hid hmr.row; have B2 := Lib.hid (below_then B1.out hb2 B1.out.size)
    clear hmr hb2
    go_wp2_with fail
    refine (SP.out w2 own B2.out OWN.out).mono ?_
    rintro e w3 ⟨v3, rfl, hr3, hb3⟩
    have B3 := Lib.hid (below_then B2.out hb3 B2.out.size); have R3 := Lib.hid hr3; have OWN3 := Lib.hid (OWN.out.below hb3 (Nat.le_refl _) |>.mono hb3.size)
    clear hb3 hr3 SP OWN
    go_wp2_with fail
    refine (RS.out w3 B3.out).mono ?_
    rintro e w4 ⟨v4, rfl, hr4, hb4⟩
    have B4 := Lib.hid (below_then B3.out hb4 B3.out.size); have R4 := Lib.hid hr4; have OWN4 := Lib.hid (OWN3.out.below hb4 (Nat.le_refl _) |>.mono hb4.size); have R34 := Lib.hid (R3.out.below hb4 (Nat.le_refl _) |>.mono hb4.size)
    clear hb4 hr4 RS OWN3 R3
    go_wp2_with fail
    refine (CS2.out w4 v3 v4 _ _ R34.out R4.out).mono ?_
    rintro e w5 ⟨⟨rfl, _⟩ | ⟨_, hno⟩, hb5⟩
    · have B5 := Lib.hid (below_then B4.out hb5 B4.out.size); have OWN5 := Lib.hid (OWN4.out.below hb5 (Nat.le_refl _) |>.mono hb5.size)
      clear hb5 OWN4 R34 R4
      go_wp2_with fail
      refine (CS.out w5 own _ _ (HV.out w5 B5.out) OWN5.out).mono ?_
      rintro e w6 ⟨⟨rfl, _⟩ | ⟨_, hno⟩, hb6⟩
      · have B6 := Lib.hid (below_then B5.out hb6 B5.out.size)
        clear hb6
        go_wp2
        go_ret
        exact ⟨rfl, B6.out⟩
      · exact absurd ⟨rfl, fun i _ => rfl⟩ hno
    · exact absurd ⟨rfl, fun i _ => rfl⟩ hno
  · have SP := Lib.hid (fun (w' : World) u (hb : Below w.heap.size w w') (hu : Row w' w'.heap.size .u64 u n f) => spread_bad u va n m f s t w' hml hu (HA.out w' hb) fine)
    have RS := Lib.hid (fun (w' : World) (hb : Below w.heap.size w w') => rspread_bad v va n m f s t w' hml (HV.out w' hb) (HA.out w' hb) fine)
    clear fine ha hv hf hn hml
    have CN := Lib.hid (fun w' => sameBits_any (.slice none 0 0) (.slice none 0 0) 0 0 (fun _ => 0) (fun _ => 0) w' ⟨none, 0, rfl, fun _ => ⟨rfl, rfl⟩, fun h => by omega⟩ ⟨none, 0, rfl, fun _ => ⟨rfl, rfl⟩, fun h => by omega⟩ (by unfold maxLen; omega))
    go_enter Try.func4, Try.ntmps4
    go_wp2_with fail
    refine CA.out.mono ?_
    rintro e w1 ⟨rfl, hb1⟩
    have B1 := Lib.hid hb1
    clear hb1
    go_wp2_with (at_builtin; refine wpList_copy_bits rfl _ _ rfl v n f rfl rfl (HV.out _ B1.out) HN.out ?_)
    intro own w2 hmr hb2
    have OWN := Lib.hid hmr.row; have B2 := Lib.hid (below_then B1.out hb2 B1.out.size)
    clear hmr hb2
    go_wp2_with fail
    refine (SP.out w2 own B2.out OWN.out).mono ?_
    rintro e w3 ⟨rfl, hb3⟩
    have B3 := Lib.hid (below_then B2.out hb3 B2.out.size); have OWN3 := Lib.hid (OWN.out.below hb3 (Nat.le_refl _) |>.mono hb3.size)
    clear hb3 SP OWN
    go_wp2_with fail
    refine (RS.out w3 B3.out).mono ?_
    rintro e w4 ⟨rfl, hb4⟩
    have B4 := Lib.hid (below_then B3.out hb4 B3.out.size); have OWN4 := Lib.hid (OWN3.out.below hb4 (Nat.le_refl _) |>.mono hb4.size)
    clear hb4 RS OWN3
    go_wp2_with fail
    refine (CN.out w4).mono ?_
    rintro e w5 ⟨⟨rfl, _⟩ | ⟨_, hno⟩, hb5⟩
    · have B5 := Lib.hid (below_then B4.out hb5 B4.out.size); have OWN5 := Lib.hid (OWN4.out.below hb5 (Nat.le_refl _) |>.mono hb5.size)
      clear hb5 OWN4
      go_wp2_with fail
      refine (CS.out w5 own _ _ (HV.out w5 B5.out) OWN5.out).mono ?_
      rintro e w6 ⟨⟨rfl, _⟩ | ⟨_, hno⟩, hb6⟩
      · have B6 := Lib.hid (below_then B5.out hb6 B5.out.size)
        clear hb6
        go_wp2
        go_ret
        exact ⟨rfl, B6.out⟩
      · exact absurd ⟨rfl, fun i _ => rfl⟩ hno
    · exact absurd ⟨rfl, fun i _ => rfl⟩ hno

theorem walk_WaitsSpread (v : Value) (q : Slq) (va : Value) (qa : Slq) (w : World) (h : v = .slice q.a q.len q.cap ∧ q.len ≤ q.cap ∧ q.cap ≤ maxLen ∧ ∃ f : Nat → Int, Row w w.heap.size .u64 v q.len f ∧ ∀ i, i < q.len → 0 ≤ f i ∧ f i < 18446744073709551616) (hs : q.cap * 8 ≤ 140737488351232)
    (ha : va = .slice qa.a qa.len qa.cap ∧ qa.len ≤ qa.cap ∧ ∃ s t, ArcI w w.heap.size va qa.len s t) :
    Calls Try.prog 4 #[v, va] w fun e w' => e = .returned (.bool true) ∧ Below w.heap.size w w' := by
  obtain ⟨_, h1, _, f, hr, hf⟩ := h
  obtain ⟨_, _, s, t, ha⟩ := ha
  exact spread_law v va q.len qa.len f s t w (by omega) hf hr ha
end Go.Proofs.Ytehifnkpmhbimaa
