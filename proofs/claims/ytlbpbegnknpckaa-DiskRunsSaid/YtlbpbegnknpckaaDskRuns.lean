/- The walk of DiskRuns (under way). -/
import Derived.Test.YtlbpbegnknpckaaDskRunsTwo
import Derived.Deep.RegionHeld3
import Derived.Deep.QuietTactic
import Derived.BigQuiet
set_option linter.unusedVariables false
set_option linter.unusedSimpArgs false
namespace Go.Proofs.Ytlbpbegnknpckaa
open Go.RowKit

set_option maxRecDepth 100000 in
set_option maxHeartbeats 8000000 in
theorem runs_core (n m cap : Nat) (a : Option Addr) (cl : Nat → Cl) (w : World) (h1 : 1 ≤ n) (h2 : n ≤ 16384) (hm : m ≤ 8796093022207)
    (ha : 0 < m → ∃ b off, a = some (⟨b, off, none⟩ : Addr) ∧ b < w.heap.size ∧ ∀ i, i < m → w.cell? ⟨b, off + i * 4, none⟩ = some (.int .i64 (cl i).kind) ∧ w.cell? ⟨b, off + (i * 4 + 1), none⟩ = some (.int .i64 (cl i).sector) ∧ w.cell? ⟨b, off + (i * 4 + 2), none⟩ = some (.string (cl i).data) ∧ w.cell? ⟨b, off + (i * 4 + 3), none⟩ = some (cl i).kv)
    (hz : ∀ i, i < m → (cl i).data.size ≤ maxLen) (hk : ∀ i, i < m → Kp w w.heap.size (cl i).kv (cl i).kl (cl i).kb) (hs : ∀ i, i < m → -9223372036854775808 ≤ (cl i).sector ∧ (cl i).sector ≤ 9223372036854775807) :
    Calls Try.prog 3 #[.int .i64 n, .slice a m cap] w fun e w' => e = .returned (.bool true) ∧ Below w.heap.size w w' := by
  have CA := Lib.hid (awake_any w)
  have CN := Lib.hid (fun w => new_good n w h1 h2)
  have CR := Lib.hid (fun w => rnew_any n w h1 h2)
  have HA := Lib.hid ha; have HZ := Lib.hid hz; have HK := Lib.hid hk; have HS := Lib.hid hs
  clear ha hz hk hs
  go_enter Try.func3, Try.ntmps3
  go_wp2_with fail
  refine CA.out.mono ?_
  rintro e w1 ⟨rfl, hb1⟩
  go_wp2_with fail
  refine (CN.out w1).mono ?_
  rintro e w2 ⟨I, rfl, hd2, hb2⟩
  have cs := size_any hd2
  rw [show (Dsk.start (blanks n)).firm.length = n from by simp [Dsk.start, blanks]] at cs
  have CS := Lib.hid cs; have HD2 := Lib.hid hd2; have HB2 := Lib.hid (below_then hb1 hb2 hb1.size); have S1 := Lib.hid hb1.size
  clear cs hd2 hb1 hb2
  unfold Ids.ptr at CS ⊢
  go_wp2_with fail
  refine CS.out.mono ?_
  rintro e w3 ⟨rfl, hw⟩
  subst w3
  go_wp2_with fail
  refine (CR.out w2).mono ?_
  rintro e w3 ⟨J, rfl, hr3, hb3⟩
  have R0 : Rn w w3 w1.heap.size I J (.start (blanks n)) n 0 := by
    have hlt := HD2.out.box.lt
    have hle : w1.heap.size ≤ w2.heap.size := by have := HD2.out.bg; omega
    refine ⟨⟨HD2.out.kept hb3, ⟨hr3.box, hr3.firm, ?_, Nat.le_trans hle hr3.bg, Nat.le_trans hle hr3.bf, hr3.ok⟩, below_then HB2.out hb3 HB2.out.size, S1.out, ⟨?_, ?_⟩, rfl⟩, by simp [Dsk.start, blanks], Nat.le_refl _⟩
    · obtain ⟨q1, q2⟩ := hr3.pend
      refine ⟨q1, ?_⟩
      rcases q2 with q2 | ⟨g, cp, cur, e1, e2, e3⟩
      · exact .inl q2
      · exact .inr ⟨g, cp, cur, e1, Nat.le_trans hle e2, e3⟩
    · have := HD2.out.firm.lt; have := hr3.bf; omega
    · have := HD2.out.now.lt; have := hr3.bf; omega
  have HR0 := Lib.hid R0
  clear R0 hr3 hb3 HD2 HB2
  unfold Rds.ptr
  go_wp2
  go_loopw [5, 7, 53] (fun x y i wr => ∃ (k : Nat) (I : Ids) (J : Rds) (S : Dsk), k ≤ m ∧ i = .int .i64 k ∧ x = .pointer (some ⟨I.g, 0, none⟩) ∧ y = .pointer (some ⟨J.g, 0, none⟩) ∧ Rn w wr w1.heap.size I J S n k) (fun x y i _ => m - (intOf i).toNat)
  case atStart => exact ⟨0, I, J, _, Nat.zero_le _, rfl, rfl, rfl, HR0.out⟩
  case round =>
    clear HR0
    obtain ⟨k, I, J, S, hk, rfl, rfl, rfl, R⟩ := hrel
    have RR := Lib.hid R; clear R
    by_cases hlt : k < m
    · obtain ⟨b, off, rfl, hbB, hcell⟩ := HA.out (by omega)
      obtain ⟨q0, q1, q2, q3⟩ := hcell k hlt
      rw [← RR.out.two.bel.cell (p := ⟨b, off + k * 4, none⟩) hbB] at q0
      rw [← RR.out.two.bel.cell (p := ⟨b, off + (k * 4 + 1), none⟩) hbB] at q1
      rw [← RR.out.two.bel.cell (p := ⟨b, off + (k * 4 + 2), none⟩) hbB] at q2
      rw [← RR.out.two.bel.cell (p := ⟨b, off + (k * 4 + 3), none⟩) hbB] at q3
      rw [← Nat.add_assoc] at q1 q2 q3
      have hzk := HZ.out k hlt
      have hkp := HK.out k hlt
      have hsk := HS.out k hlt
      have hkp' := hkp
      obtain ⟨ka, kc, ekv, _⟩ := hkp'
      generalize cl k = c at *
      obtain ⟨kind, sector, data, kv, kl, kb⟩ := c
      simp only at q0 q1 q2 q3 hzk ekv hsk hkp
      subst ekv
      have KP := Lib.hid hkp; have SK := Lib.hid hsk
      clear hkp hsk
      have CP := Lib.hid (fun w => padded_any data w hzk)
      clear hcell hzk
      have g4 : Bk (wr.alloc (.cells #[.int .i64 kind, .int .i64 sector, .string data, .slice ka kl kc] 33)) wr.heap.size 33 #[.int .i64 kind, .int .i64 sector, .string data, .slice ka kl kc] := Bk.new _ _ _
      have G4 := Lib.hid g4
      clear g4
      by_cases hk0 : kind = 0
      · subst hk0
        go_wp2_with fail
        have hRa : Rn w (wr.alloc (.cells #[.int .i64 0, .int .i64 sector, .string data, .slice ka kl kc] 33)).drew w1.heap.size I J S n k := (RR.out.kept (Below.refl _ wr |>.alloc (Nat.le_refl _) _)).kept (Below.refl _ _).drew
        have g5 : Bk (wr.alloc (.cells #[.int .i64 0, .int .i64 sector, .string data, .slice ka kl kc] 33)).drew wr.heap.size 33 #[.int .i64 0, .int .i64 sector, .string data, .slice ka kl kc] := G4.out.drew
        have lim : S.pend.length ≤ 8796093022208 := by have := RR.out.pend; omega
        generalize (wr.alloc (.cells #[.int .i64 0, .int .i64 sector, .string data, .slice ka kl kc] 33)) = wa at *
        have x1 := g5.cell 1; have x2 := g5.cell 2
        simp only [List.getElem?_toArray, List.getElem?_cons_zero, List.getElem?_cons_succ] at x1 x2
        have HRa := Lib.hid hRa; have G5 := Lib.hid g5; have LIM := Lib.hid lim
        clear hRa g5 lim
        go_region_held3 (fun w' => w'.cell? ⟨wr.heap.size, 1, none⟩ = some (.int .i64 sector) ∧ w'.cell? ⟨wr.heap.size, 2, none⟩ = some (.string data)) (first | exact ⟨y1, y2⟩ | exact ⟨x1, x2⟩)
          (first
            | (go_simp; go_at_call 15; have hx := hd3; clear hx; refine (CP.out _).mono ?_; rintro e w4 ⟨rfl, hb4⟩; have g9 := g8.kept hb4; have y1 := g9.cell 1; have y2 := g9.cell 2; simp only [List.getElem?_toArray, List.getElem?_cons_zero, List.getElem?_cons_succ] at y1 y2)
            | (go_simp; go_at_call 15; refine (CP.out _).mono ?_; rintro e w2 ⟨rfl, hb2⟩; have hR2 := HRa.out.kept hb2; have g7 := G5.out.kept hb2; have y1 := g7.cell 1; have y2 := g7.cell 2; simp only [List.getElem?_toArray, List.getElem?_cons_zero, List.getElem?_cons_succ] at y1 y2)
            | (go_simp; go_at_call 14; refine (write_any hR2.two.d sector (pad data) hR2.two.size LIM.out).mono ?_; rintro e w3 ⟨rfl, p3, hd3, ho3⟩; have g8 := ho3.bk g7 (fun hf => by have := (RR.out.two.d.foot_lt hf).2; omega); have y1 := g8.cell 1; have y2 := g8.cell 2; simp only [List.getElem?_toArray, List.getElem?_cons_zero, List.getElem?_cons_succ] at y1 y2)
            | (go_simp; go_at_call 16; refine (rwrite_any (hR2.two.r_on ho3 hb4) sector (pad data) (Nat.le_trans hR2.two.size (Nat.le_trans ho3.size hb4.size)) LIM.out).mono ?_; rintro e w5 ⟨rfl, p5, hr5, ho5⟩; have g10 := ho5.bk g9 (fun hf => by have := (RR.out.two.r.foot_lt hf).2; omega); have y1 := g10.cell 1; have y2 := g10.cell 2; simp only [List.getElem?_toArray, List.getElem?_cons_zero, List.getElem?_cons_succ] at y1 y2))
        have hwl := write_len S sector (pad data)
        have hN : Rn w w5 w1.heap.size (I.with p3) (J.with p5) (S.write sector (pad data)).1 n (k + 1) :=
          ⟨hR2.two.both hd3 ho3 hb4 hr5 ho5 ⟨rfl, rfl, rfl⟩ (now_write S hR2.two.now _ _), hwl.1.trans RR.out.len, Nat.le_trans hwl.2 (by have := RR.out.pend; omega)⟩
        generalize (S.write sector (pad data)).1 = S' at *
        generalize (S.write sector (pad data)).2 = e' at *
        have HN := Lib.hid hN
        clear hR2 hd3 ho3 hb4 hr5 ho5 hN hwl hb2 g7 g8 g9 g10 HRa G5 LIM CP RR y1 y2 x1 x2
        go_wp2_with fail
        have cp : ∀ q, Calls Try.prog 24 #[.pointer (some ⟨I.g, 0, none⟩)] (w5.drewN q) fun e w' => e = .returned (.int .i64 S'.pend.length) ∧ w' = w5.drewN q := fun q => (by have h := pending_any (HN.out.two.d.kept (below_drewN (Below.refl _ _) q)); exact h)
        obtain ⟨ra, rc, ep⟩ := HN.out.two.r.pval
        have c1 := HN.out.two.r.cells.2.1
        rw [ep] at c1
        try dsimp only [Rds.with] at c1
        have CPD := Lib.hid cp
        clear ep cp
        go_quiet ((go_at_call 24; exact Calls.quiet_of_same (CPD.out _)))
        have HM := Lib.hid (HN.out.kept (below_drewN (Below.refl _ _) nq))
        clear c1 HN
        go_wp2
        go_roundw
        case rel => exact ⟨k + 1, I.with p3, J.with p5, S', by omega, by go_num, rfl, rfl, HM.out⟩
        case measure => simp [intOf]; omega
      · by_cases hk1 : kind = 1
        · subst hk1
          go_wp2_with fail
          have hRa : Rn w (wr.alloc (.cells #[.int .i64 1, .int .i64 sector, .string data, .slice ka kl kc] 33)) w1.heap.size I J S n k := RR.out.kept (Below.refl _ wr |>.alloc (Nat.le_refl _) _)
          have hsz : wr.heap.size < (wr.alloc (.cells #[.int .i64 1, .int .i64 sector, .string data, .slice ka kl kc] 33)).heap.size := G4.out.lt
          generalize (wr.alloc (.cells #[.int .i64 1, .int .i64 sector, .string data, .slice ka kl kc] 33)) = wa at *
          have x1 := G4.out.cell 1; have x3 := G4.out.cell 3
          simp only [List.getElem?_toArray, List.getElem?_cons_zero, List.getElem?_cons_succ] at x1 x3
          have HRa := Lib.hid hRa; have HSZ := Lib.hid hsz
          clear hRa hsz
          refine (barrier_any HRa.out.two.d).mono ?_
          rintro e w3 ⟨rfl, p3, hd3, ho3⟩
          have HD3 := Lib.hid hd3; have HO3 := Lib.hid ho3
          clear hd3 ho3
          go_wp2_with fail
          refine (rbarrier_any (HRa.out.two.r_on HO3.out (Below.refl _ _))).mono ?_
          rintro e w5 ⟨rfl, p5, hr5, ho5⟩
          have hwl := barrier_len S
          have hN : Rn w w5 w1.heap.size (I.with p3) (J.with p5) S.barrier.1 n (k + 1) :=
            ⟨HRa.out.two.both HD3.out HO3.out (Below.refl _ _) hr5 ho5 ⟨rfl, rfl, rfl⟩ (now_barrier S HRa.out.two.now), hwl.1.trans HRa.out.len, Nat.le_trans hwl.2 (by have := HRa.out.pend; omega)⟩
          clear HD3 HO3 hr5 ho5 hwl
          generalize S.barrier.1 = S' at *
          generalize S.barrier.2 = e' at *
          have HN := Lib.hid hN
          clear hN HRa RR CP x1 x3
          go_wp2_with fail
          have cp : ∀ q, Calls Try.prog 24 #[.pointer (some ⟨I.g, 0, none⟩)] (w5.drewN q) fun e w' => e = .returned (.int .i64 S'.pend.length) ∧ w' = w5.drewN q := fun q => (by have h := pending_any (HN.out.two.d.kept (below_drewN (Below.refl _ _) q)); exact h)
          obtain ⟨ra, rc, ep⟩ := HN.out.two.r.pval
          have c1 := HN.out.two.r.cells.2.1
          rw [ep] at c1
          try dsimp only [Rds.with] at c1
          have CPD := Lib.hid cp
          clear ep cp
          go_quiet ((go_at_call 24; exact Calls.quiet_of_same (CPD.out _)))
          have HM := Lib.hid (HN.out.kept (below_drewN (Below.refl _ _) nq))
          clear c1 HN
          go_wp2
          go_roundw
          case rel => exact ⟨k + 1, I.with p3, J.with p5, S', by omega, by go_num, rfl, rfl, HM.out⟩
          case measure => simp [intOf]; omega
        · by_cases hk2 : kind = 2
          · subst hk2
            go_wp2_with fail
            have hRa : Rn w (wr.alloc (.cells #[.int .i64 2, .int .i64 sector, .string data, .slice ka kl kc] 33)) w1.heap.size I J S n k := RR.out.kept (Below.refl _ wr |>.alloc (Nat.le_refl _) _)
            have hsz : wr.heap.size < (wr.alloc (.cells #[.int .i64 2, .int .i64 sector, .string data, .slice ka kl kc] 33)).heap.size := G4.out.lt
            generalize (wr.alloc (.cells #[.int .i64 2, .int .i64 sector, .string data, .slice ka kl kc] 33)) = wa at *
            have x1 := G4.out.cell 1; have x3 := G4.out.cell 3
            simp only [List.getElem?_toArray, List.getElem?_cons_zero, List.getElem?_cons_succ] at x1 x3
            have HRa := Lib.hid hRa; have HSZ := Lib.hid hsz
            clear hRa hsz
            refine (fuel_any HRa.out.two.d sector SK.out.2).mono ?_
            rintro e w3 ⟨rfl, hd3, ho3⟩
            have y1 : w3.cell? ⟨wr.heap.size, 1, none⟩ = some (.int .i64 sector) := by
              rw [← x1]; exact World.cell?_of_block (ho3.block wr.heap.size HSZ.out (fun hf => by have := (RR.out.two.d.foot_lt hf).2; omega))
            have hr3 := HRa.out.two.r_on ho3 (Below.refl _ _)
            have c2 := hr3.cells.2.2.1
            have f2 := hr3.box.fz 2
            have b2 := hr3.box.lt
            have em : max sector (-1) = if sector < 0 then -1 else sector := by split <;> omega
            have lo : -1 ≤ max sector (-1) := by omega
            have hi : max sector (-1) ≤ 9223372036854775807 := by have := SK.out.2; omega
            rw [← em] at hd3
            have hN : Rn w (w3.setCell ⟨J.g, 2, none⟩ (.int .i64 (max sector (-1)))) w1.heap.size I J { S with fuel := max sector (-1) } n (k + 1) :=
              ⟨HRa.out.two.both hd3 ho3 (Below.refl _ _) (hr3.setFuel _ lo hi) ((Out.refl w3 J.foot).set (fun _ => .inl rfl) _) ⟨rfl, rfl, rfl⟩ HRa.out.two.now, HRa.out.len, Nat.le_succ_of_le HRa.out.pend⟩
            have HN := Lib.hid hN
            clear hr3 hd3 ho3 x1 x3 hN HRa RR CP lo hi em b2
            go_wp2_with fail
            generalize ({ S with fuel := max sector (-1) } : Dsk) = S' at *
            generalize (w3.setCell ⟨J.g, 2, none⟩ (.int .i64 (max sector (-1)))) = w5 at *
            clear y1 c2 f2
            have cp : ∀ q, Calls Try.prog 24 #[.pointer (some ⟨I.g, 0, none⟩)] (w5.drewN q) fun e w' => e = .returned (.int .i64 S'.pend.length) ∧ w' = w5.drewN q := fun q => (by have h := pending_any (HN.out.two.d.kept (below_drewN (Below.refl _ _) q)); exact h)
            obtain ⟨ra, rc, ep⟩ := HN.out.two.r.pval
            have c1 := HN.out.two.r.cells.2.1
            rw [ep] at c1
            try dsimp only [Rds.with] at c1
            have CPD := Lib.hid cp
            clear ep cp
            go_quiet ((go_at_call 24; exact Calls.quiet_of_same (CPD.out _)))
            have HM := Lib.hid (HN.out.kept (below_drewN (Below.refl _ _) nq))
            clear c1 HN
            go_wp2
            go_roundw
            case rel => exact ⟨k + 1, I, J, S', by omega, by go_num, rfl, rfl, HM.out⟩
            case measure => simp [intOf]; omega
          · by_cases hk3 : kind = 3
            · subst hk3
              go_wp2_with fail
              have hRa : Rn w (wr.alloc (.cells #[.int .i64 3, .int .i64 sector, .string data, .slice ka kl kc] 33)) w1.heap.size I J S n k := RR.out.kept (Below.refl _ wr |>.alloc (Nat.le_refl _) _)
              have hsz : wr.heap.size < (wr.alloc (.cells #[.int .i64 3, .int .i64 sector, .string data, .slice ka kl kc] 33)).heap.size := G4.out.lt
              generalize (wr.alloc (.cells #[.int .i64 3, .int .i64 sector, .string data, .slice ka kl kc] 33)) = wa at *
              have x1 := G4.out.cell 1; have x3 := G4.out.cell 3
              simp only [List.getElem?_toArray, List.getElem?_cons_zero, List.getElem?_cons_succ] at x1 x3
              have HRa := Lib.hid hRa; have HSZ := Lib.hid hsz
              clear hRa hsz
              have hkp : Kp wa w1.heap.size (.slice ka kl kc) kl kb := (KP.out.kept HRa.out.two.bel (Nat.le_refl _)).mono S1.out
              refine (crash_any HRa.out.two.d _ kl kb hkp).mono ?_
              rintro e w3 ⟨I2, rfl, hdO, hdN, ho3, _⟩
              have y3 : w3.cell? ⟨wr.heap.size, 3, none⟩ = some (.slice ka kl kc) := by
                rw [← x3]; exact World.cell?_of_block (ho3.block wr.heap.size HSZ.out (fun hf => by have := (RR.out.two.d.foot_lt hf).2; omega))
              have b3 : Below w.heap.size w w3 := HRa.out.two.bel.trans ((ho3.below HRa.out.two.size (fun k hk => (HRa.out.two.d.foot_lt hk).1)).mono HRa.out.two.hB)
              have hkp3 : Kp w3 w1.heap.size (.slice ka kl kc) kl kb := (KP.out.kept b3 (Nat.le_refl _)).mono S1.out
              have hr3 := HRa.out.two.r_on ho3 (Below.refl _ _)
              have HKP := Lib.hid hkp3; have HR3 := Lib.hid hr3; have HDO := Lib.hid hdO; have HDN := Lib.hid hdN; have HO3 := Lib.hid ho3; have HB3 := Lib.hid b3
              clear hkp3 hr3 hdO hdN ho3 b3 x1 x3 hkp
              unfold Ids.ptr
              go_wp2_with fail
              refine (rcrash_any HR3.out _ kl kb HKP.out).mono ?_
              rintro e w5 ⟨J2, rfl, hrO, hrN, ho5⟩
              have hdO5 := HDO.out.out ho5 (fun k hk hj => ij_apart HDO.out HR3.out HRa.out.two.apart k hk hj)
              have hdN5 := HDN.out.out ho5 (fun k hk hj => by have := (HDN.out.foot_lt hk).1; have := (HRa.out.two.r.foot_lt hj).2; omega)
              have hB5 : Below w.heap.size w w5 := HB3.out.trans ((ho5.below (Nat.le_trans HRa.out.two.size HO3.out.size) (fun k hk => (HR3.out.foot_lt hk).1)).mono HRa.out.two.hB)
              have hBa := HRa.out.two.size
              have h35 := HO3.out.size
              have ap : I2.f ≠ J2.f ∧ I2.n ≠ J2.f := by
                have q1 := (HDN.out.foot_lt (.inr (.inl rfl))).2
                have q2 := (HDN.out.foot_lt (.inr (.inr (.inl rfl)))).2
                have q3 := hrN.bf
                constructor <;> omega
              have cr := read_any hdO5 0
              have cb := barrier_any hdO5
              rw [show ({ S with down := true } : Dsk).read 0 = (⟨#[]⟩, 20) from by simp [Dsk.read]] at cr
              rw [show ({ S with down := true } : Dsk).barrier = ({ S with down := true }, 20) from by simp [Dsk.barrier]] at cb
              have HDN5 := Lib.hid hdN5; have HRN := Lib.hid hrN; have HB5 := Lib.hid hB5; have AP := Lib.hid ap; have CRd := Lib.hid cr; have CBr := Lib.hid cb
              have lowA : ∀ k, I.foot k → k < wa.heap.size := fun k hk => (HRa.out.two.d.foot_lt hk).2
              have lowB : ∀ k, I.foot k → w1.heap.size ≤ k := fun k hk => (HRa.out.two.d.foot_lt hk).1
              have sz5 : w1.heap.size ≤ w5.heap.size := by have := ho5.size; omega
              have LA := Lib.hid lowA; have LB := Lib.hid lowB; have SZ5 := Lib.hid sz5; have HBA := Lib.hid hBa; have H35 := Lib.hid h35
              clear hdO5 hdN5 hrO hrN ho5 hB5 ap cr cb y3 lowA lowB sz5 HDO HDN HO3 HB3 HKP HR3 hBa h35
              unfold Rds.ptr
              dsimp only [Ids.ptr] at CRd CBr
              go_wp2_with fail
              refine CRd.out.mono ?_
              rintro e w6 ⟨rfl, hw⟩
              subst w6
              go_wp2_with fail
              refine CBr.out.mono ?_
              rintro e w6 ⟨rfl, p6, hd6, ho6⟩
              have hN : Rn w w6 w1.heap.size I2 J2 (S.crash kl kb) n (k + 1) := by
                have hl := crash_len S kl kb
                have h35 := H35.out
                have hba := HBA.out
                refine ⟨⟨(HDN5.out.out ho6 (fun k hk hj => by have := (HDN5.out.foot_lt hk).1; have := LA.out k hj; omega)).low HBA.out, (HRN.out.out ho6 (fun k hk hj => by have := (HRN.out.foot_lt hk).1; have := LA.out k hj; omega)).low (by omega), HB5.out.trans ((ho6.below SZ5.out LB.out).mono HRa.out.two.hB), HRa.out.two.hB, AP.out, hl.2.2⟩, hl.1.trans HRa.out.len, by rw [hl.2.1]; exact Nat.zero_le _⟩
              have cs := size_any hd6
              rw [show ({ S with down := true } : Dsk).firm.length = n from HRa.out.len] at cs
              have HN := Lib.hid hN; have CSz := Lib.hid cs
              clear hN cs hd6 ho6 HDN5 HRN HB5 AP CRd CBr LA LB SZ5 HBA H35 RR CP
              dsimp only [Ids.ptr, Ids.with] at CSz
              generalize S.crash kl kb = S' at *
              go_wp2_with fail
              refine CSz.out.mono ?_
              rintro e w7 ⟨rfl, hw⟩
              subst w7
              clear CSz HRa
              go_wp2_with fail
              have cp : ∀ q, Calls Try.prog 24 #[.pointer (some ⟨I2.g, 0, none⟩)] (w6.drewN q) fun e w' => e = .returned (.int .i64 S'.pend.length) ∧ w' = w6.drewN q := fun q => (by have h := pending_any (HN.out.two.d.kept (below_drewN (Below.refl _ _) q)); exact h)
              obtain ⟨ra, rc, ep⟩ := HN.out.two.r.pval
              have c1 := HN.out.two.r.cells.2.1
              rw [ep] at c1
              try dsimp only [Rds.with] at c1
              have CPD := Lib.hid cp
              clear ep cp
              go_quiet ((go_at_call 24; exact Calls.quiet_of_same (CPD.out _)))
              have HM := Lib.hid (HN.out.kept (below_drewN (Below.refl _ _) nq))
              clear c1 HN
              go_wp2
              go_roundw
              case rel => exact ⟨k + 1, I2, J2, S', by omega, by go_num, rfl, rfl, HM.out⟩
              case measure => simp [intOf]; omega
            · go_wp2_with fail
              have hRa : Rn w (wr.alloc (.cells #[.int .i64 kind, .int .i64 sector, .string data, .slice ka kl kc] 33)) w1.heap.size I J S n k := RR.out.kept (Below.refl _ wr |>.alloc (Nat.le_refl _) _)
              have hsz : wr.heap.size < (wr.alloc (.cells #[.int .i64 kind, .int .i64 sector, .string data, .slice ka kl kc] 33)).heap.size := G4.out.lt
              generalize (wr.alloc (.cells #[.int .i64 kind, .int .i64 sector, .string data, .slice ka kl kc] 33)) = wa at *
              have x1 := G4.out.cell 1; have x3 := G4.out.cell 3
              simp only [List.getElem?_toArray, List.getElem?_cons_zero, List.getElem?_cons_succ] at x1 x3
              have HRa := Lib.hid hRa; have HSZ := Lib.hid hsz
              clear hRa hsz
              have cr := read_any HRa.out.two.d sector
              have cq := rread_any HRa.out.two.r sector HRa.out.two.now
              have hN : Rn w wa w1.heap.size I J S n (k + 1) := ⟨HRa.out.two, HRa.out.len, Nat.le_succ_of_le HRa.out.pend⟩
              have CRd := Lib.hid cr; have CRr := Lib.hid cq; have HN := Lib.hid hN
              generalize (S.read sector).1 = s' at *
              generalize (S.read sector).2 = e' at *
              clear cr cq hN x3 RR CP HRa
              dsimp only [Ids.ptr] at CRd
              dsimp only [Rds.ptr] at CRr
              refine CRd.out.mono ?_
              rintro e w6 ⟨rfl, hw⟩
              subst w6
              go_wp2_with fail
              refine CRr.out.mono ?_
              rintro e w6 ⟨rfl, hw⟩
              subst w6
              clear CRd CRr x1
              go_wp2_with fail
              have cp : ∀ q, Calls Try.prog 24 #[.pointer (some ⟨I.g, 0, none⟩)] (wa.drewN q) fun e w' => e = .returned (.int .i64 S.pend.length) ∧ w' = wa.drewN q := fun q => (by have h := pending_any (HN.out.two.d.kept (below_drewN (Below.refl _ _) q)); exact h)
              obtain ⟨ra, rc, ep⟩ := HN.out.two.r.pval
              have c1 := HN.out.two.r.cells.2.1
              rw [ep] at c1
              try dsimp only [Rds.with] at c1
              have CPD := Lib.hid cp
              clear ep cp
              go_quiet ((go_at_call 24; exact Calls.quiet_of_same (CPD.out _)))
              have HM := Lib.hid (HN.out.kept (below_drewN (Below.refl _ _) nq))
              clear c1 HN
              go_wp2
              go_roundw
              case rel => exact ⟨k + 1, I, J, S, by omega, by go_num, rfl, rfl, HM.out⟩
              case measure => simp [intOf]; omega
    · obtain rfl : k = m := by omega
      have HQ := Lib.hid RR.out.two.bel
      have cr : ∀ i : Nat, Calls Try.prog 22 #[.pointer (some ⟨I.g, 0, none⟩), .int .i64 i] wr fun e w' => e = .returned (.tuple #[.string (S.read i).1, .int .i64 (S.read i).2]) ∧ w' = wr := fun i => by have h := read_any RR.out.two.d i; exact h
      have cq : ∀ i : Nat, Calls Try.prog 23 #[.pointer (some ⟨J.g, 0, none⟩), .int .i64 i] wr fun e w' => e = .returned (.tuple #[.string (S.read i).1, .int .i64 (S.read i).2]) ∧ w' = wr := fun i => by have h := rread_any RR.out.two.r i RR.out.two.now; exact h
      have CRd := Lib.hid cr; have CRr := Lib.hid cq
      clear cr cq RR
      go_wp2
      go_loopw [17] (fun i ws => ∃ q : Nat, q ≤ n ∧ i = .int .i64 q ∧ ws = wr) (fun i _ => n - (intOf i).toNat)
      case atStart => exact ⟨0, Nat.zero_le _, rfl, rfl⟩
      case round =>
        obtain ⟨q, hq, rfl, rfl⟩ := hrel
        by_cases hlt2 : q < n
        · by_cases h50 : q < 50
          · go_wp2_with fail
            refine (CRd.out q).mono ?_
            rintro e w6 ⟨rfl, hw⟩
            subst w6
            go_wp2_with fail
            refine (CRr.out q).mono ?_
            rintro e w6 ⟨rfl, hw⟩
            subst w6
            generalize (S.read q).1 = s' at *
            generalize (S.read q).2 = e' at *
            go_wp2
            go_roundw
            case rel => exact ⟨q + 1, by omega, by go_num, by first | rfl | trivial⟩
            case measure => simp [intOf]; omega
          · go_wp2
            go_ret
            exact ⟨rfl, HQ.out⟩
        · obtain rfl : q = n := by omega
          go_wp2
          go_ret
          exact ⟨rfl, HQ.out⟩
end Go.Proofs.Ytlbpbegnknpckaa
