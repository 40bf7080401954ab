/- The walk of WalRoom. -/
import Derived.Test.YtplcddcdhnjfeaaWalAwake
import Derived.Test.YtplcddcdhnjfeaaSq
set_option linter.unusedVariables false
set_option linter.unusedSimpArgs false
namespace Go.Proofs.Ytplcddcdhnjfeaa
open Go.RowKit

theorem append_room {L : Lg} (rec : ByteArray) (h0 : ¬ rec.size = 0) (h1 : ¬ 65535 < rec.size) (h2 : ¬ L.room < rec.size + 2) (hf : flr L.start ≤ L.fin) :
    L.append rec = (L.more rec, L.fin, 0) ∧ (((L.more rec).room : Nat) : Int) = (L.room : Int) - rec.size - 2 ∧ (L.more rec).fin = L.fin + (2 + rec.size) := by
  refine ⟨by unfold Lg.append; rw [if_neg h0, if_neg h1, if_neg h2], ?_, rfl⟩
  unfold Lg.room at h2 ⊢
  show ((54 * L.n - (L.fin + (2 + rec.size) - flr L.start) : Nat) : Int) = _
  omega

set_option maxRecDepth 100000 in
set_option maxHeartbeats 4000000 in
theorem walk_WalRoom (v : Value) (q : Slq) (w : World) (hq : IsTx w v q) :
    Calls Try.prog 5 #[v] w fun e w' => e = .returned (.bool true) ∧ Below w.heap.size w w' := by
  have CA := Lib.hid (awake_any w)
  have CN := Lib.hid (fun w => new_good 128 w (by omega) (by omega))
  obtain ⟨hs, s, hs2⟩ := hq
  have hm : q.len ≤ 9223372036854775807 := by have a := hs.le; have b := hs.max; unfold maxLen at b; omega
  have Q0 := Lib.hid (Sq.of hs (f := fun i => .string (s i)) (fun i hi => (hs2 i hi).1))
  have SZ := Lib.hid (fun i hi => (hs2 i hi).2)
  clear hs hs2
  generalize q.len = m at *
  obtain ⟨sa, sc, rfl, hsq⟩ := Q0.out
  have HQ := Lib.hid hsq
  clear hsq Q0
  go_enter Try.func5, Try.ntmps5
  go_wp2_with fail
  refine CA.out.mono ?_
  rintro e w1 ⟨rfl, hb⟩
  have B1 := Lib.hid hb
  clear hb CA
  go_wp2_with fail
  refine (CN.out _).mono ?_
  rintro e w2 ⟨I, rfl, hd, hb⟩
  have B2 := Lib.hid (below_then B1.out hb B1.out.size)
  have CC := Lib.hid (create_good 128 0 128 hd (by omega) (by omega) (by omega) hb.size)
  have HS := Lib.hid B1.out.size
  clear hd hb CN B1
  generalize w1.heap.size = B at *
  unfold Ids.ptr at *
  go_wp2_with fail
  refine CC.out.mono ?_
  rintro e w3 ⟨g, p', rfl, hw, hb⟩
  have B3 := Lib.hid (B2.out.trans (hb.mono HS.out))
  have W3 := Lib.hid hw
  have HB := Lib.hid (show B ≤ w3.heap.size from by have := hw.bg; have := hw.box.lt; dsimp only at *; omega)
  clear hw hb CC B2
  go_wp2_with fail
  go_loopw [33] (fun i wr => ∃ (j : Nat) (J : Wd) (L : Lg), j ≤ m ∧ i = .int .i64 j ∧ J.g = g ∧ Wl wr B J L (.start (blanks 128)) ∧ L.n = 128 ∧ L.start = 54 ∧ B ≤ wr.heap.size ∧ Below w.heap.size w wr) (fun i _ => m - (intOf i).toNat)
  case atStart => exact ⟨0, _, _, Nat.zero_le _, rfl, rfl, W3.out, rfl, rfl, HB.out, B3.out⟩
  case round =>
    obtain ⟨j, J, L, hj, rfl, hJ, hW, hn, hst, hBw, hb⟩ := hrel
    have W := Lib.hid hW; have BB := Lib.hid hb; have HW := Lib.hid hBw; have HN := Lib.hid hn; have HT := Lib.hid hst
    clear hW hb hBw hn hst W3 B3 HB
    by_cases hlt : j < m
    · have HLT := Lib.hid hlt
      obtain ⟨b, off, hsa, hlb, hc⟩ := HQ.out (by omega)
      subst hsa
      have q0 : wr.cell? ⟨b, off + j, none⟩ = some (.string (s j)) := by
        rw [BB.out.cell (p := ⟨b, off + j, none⟩) hlb]; exact hc j hlt
      have RS := Lib.hid (SZ.out j hlt)
      clear hc
      generalize s j = rec at *
      have CR := Lib.hid (room_any W.out)
      unfold Wd.ptr at CR
      rw [hJ] at CR
      go_wp2_with fail
      refine CR.out.mono ?_
      rintro e w4 ⟨rfl, n1, hw4⟩
      have B4 := Lib.hid (show Below wr.heap.size wr w4 by rw [hw4]; exact below_drewN (Below.refl _ _) n1)
      have CS := Lib.hid (span_any (W.out.kept B4.out))
      unfold Wd.ptr at CS
      rw [hJ] at CS
      clear hw4 CR q0
      go_wp2_with fail
      refine CS.out.mono ?_
      rintro e w5 ⟨rfl, n2, hw5⟩
      have B5 := Lib.hid (below_then B4.out (show Below w4.heap.size w4 w5 by rw [hw5]; exact below_drewN (Below.refl _ _) n2) B4.out.size)
      have W5 := Lib.hid (W.out.kept B5.out)
      have BB5 := Lib.hid (below_then BB.out B5.out BB.out.size)
      have HW5 := Lib.hid (Nat.le_trans HW.out B5.out.size)
      have fn : L.fin ≤ 10000 := by
        have a := W5.out.ok.rm; have b := HN.out; have c := HT.out; have d := flr_le L.start
        omega
      have rm : L.room ≤ 10000 := by have b := HN.out; unfold Lg.room; omega
      have CAp := Lib.hid (append_any W5.out rec HW5.out RS.out (by omega))
      have FL := Lib.hid (show flr L.start ≤ L.fin from by have := flr_le L.start; have := W5.out.ok.sf; have := W5.out.ok.fe; omega)
      have rs := RS.out
      unfold maxLen at rs
      unfold AppPost Wd.ptr at CAp
      rw [hJ] at CAp
      clear hw5 CS B4 W B5 BB
      by_cases hA : rec.size = 0 ∨ 65535 < rec.size ∨ L.room < rec.size + 2
      · as_aux_lemma =>
          obtain ⟨er, hE, hne⟩ : ∃ er, L.append rec = (L, 0, er) ∧ er ≠ 0 := by
            unfold Lg.append
            by_cases h0 : rec.size = 0
            · exact ⟨1, by rw [if_pos h0], by decide⟩
            by_cases h1 : 65535 < rec.size
            · exact ⟨2, by rw [if_neg h0, if_pos h1], by decide⟩
            · exact ⟨70, by rw [if_neg h0, if_neg h1, if_pos (by omega)], by decide⟩
          rw [hE] at CAp
          have HA := Lib.hid hA
          clear hE hA
          go_wp2_with fail
          refine CAp.out.mono ?_
          rintro e w6 ⟨rfl, dv, pv, hw6, ho, -⟩
          have W6 := Lib.hid hw6
          have B6 := Lib.hid (BB5.out.trans ((app_below W5.out ho HW5.out).mono HS.out))
          have HW6 := Lib.hid (Nat.le_trans HW5.out ho.size)
          have CS := Lib.hid (span_any hw6)
          unfold Wd.ptr at CS
          dsimp only at CS
          clear hw6 ho CAp W5 BB5 HW5
          go_wp2_with fail
          refine CS.out.mono ?_
          rintro e w7 ⟨rfl, n3, hw7⟩
          have C7 := Lib.hid (show Below w6.heap.size w6 w7 by rw [hw7]; exact below_drewN (Below.refl _ _) n3)
          have W7 := Lib.hid (W6.out.kept C7.out)
          have B7 := Lib.hid (below_then B6.out C7.out B6.out.size)
          have HW7 := Lib.hid (Nat.le_trans HW6.out C7.out.size)
          have CR := Lib.hid (room_any W7.out)
          unfold Wd.ptr at CR
          dsimp only at CR
          clear hw7 CS C7 W6 B6 HW6
          go_upto_region 14 with fail
          go_cut [57] (fun s57 wx => s57 = .bool true ∧ wx = w7)
          case first =>
            by_cases h0 : rec.size = 0
            · have hz : rec.toList.isEmpty = true := by
                obtain rfl : rec = ⟨#[]⟩ := by
                  have : rec.data.size = 0 := h0
                  obtain ⟨d⟩ := rec
                  have := Array.eq_empty_of_size_eq_zero this
                  dsimp only at this
                  rw [this]
                rw [ByteArray.toList_eq]; rfl
              go_wp2_with fail
              go_meet
              exact ⟨rfl, rfl⟩
            · have hz : rec.toList.isEmpty = false := by
                have h1 : rec ≠ ⟨#[]⟩ := by rintro rfl; exact h0 rfl
                have h := str_ne h1
                rw [ByteArray.toList_eq (⟨#[]⟩ : ByteArray)] at h
                simpa using h
              by_cases h1 : 65535 < rec.size
              · have h1' : (65535 : Int) < (rec.size : Int) := by omega
                go_wp2_with fail
                go_meet
                exact ⟨rfl, rfl⟩
              · have h2 : L.room < rec.size + 2 := by have := HA.out; omega
                have h1' : ¬ (65535 : Int) < (rec.size : Int) := by omega
                have h2' : ((L.room : Nat) : Int) < (rec.size : Int) + 2 := by omega
                go_wp2_with fail
                go_meet
                exact ⟨rfl, rfl⟩
          case rest =>
          obtain ⟨rfl, rfl⟩ := hcut
          have hne2 : (er == 0) = false := by simp [hne]
          go_wp2_with fail
          refine CR.out.mono ?_
          rintro e w8 ⟨rfl, n4, hw8⟩
          have C8 := Lib.hid (show Below wc.heap.size wc w8 by rw [hw8]; exact below_drewN (Below.refl _ _) n4)
          have W8 := Lib.hid (W7.out.kept C8.out)
          have B8 := Lib.hid (below_then B7.out C8.out B7.out.size)
          have HW8 := Lib.hid (Nat.le_trans HW7.out C8.out.size)
          clear hw8 CR C8 W7 B7 HW7
          have hr0 : ((L.room : Int) != (L.room : Int)) = false := by simp
          have hf0 : ((L.fin : Int) != (L.fin : Int)) = false := by simp
          go_wp2_with fail
          go_roundw
          case rel => exact ⟨j + 1, _, L, by have := HLT.out; omega, by go_num, rfl, W8.out, HN.out, HT.out, HW8.out, B8.out⟩
          case measure => have := HLT.out; simp [intOf]; omega
      · as_aux_lemma =>
          have h0 : ¬ rec.size = 0 := fun h => hA (.inl h)
          have h1 : ¬ 65535 < rec.size := fun h => hA (.inr (.inl h))
          have h2 : ¬ L.room < rec.size + 2 := fun h => hA (.inr (.inr h))
          obtain ⟨hE, hR, hF⟩ := append_room rec h0 h1 h2 FL.out
          rw [hE] at CAp
          have hz : rec.toList.isEmpty = false := by
            have h1 : rec ≠ ⟨#[]⟩ := by rintro rfl; exact h0 rfl
            have h := str_ne h1
            rw [ByteArray.toList_eq (⟨#[]⟩ : ByteArray)] at h
            simpa using h
          have M1 := Lib.hid (show (L.more rec).n = 128 from HN.out); have M2 := Lib.hid (show (L.more rec).start = 54 from HT.out)
          have h1' : ¬ (65535 : Int) < (rec.size : Int) := by omega
          have h2' : ¬ ((L.room : Nat) : Int) < (rec.size : Int) + 2 := by omega
          have hF' : (((L.more rec).fin : Nat) : Int) = (L.fin : Int) + (rec.size : Int) + 2 := by rw [hF]; omega
          have hrs : rec.size ≤ 65535 := by omega
          generalize L.more rec = L2 at *
          clear hE hA h0 h1 h2 hF
          have HF := Lib.hid hF'; have HR := Lib.hid hR
          clear hF' hR
          go_wp2_with fail
          refine CAp.out.mono ?_
          rintro e w6 ⟨rfl, dv, pv, hw6, ho, -⟩
          have W6 := Lib.hid hw6
          have B6 := Lib.hid (BB5.out.trans ((app_below W5.out ho HW5.out).mono HS.out))
          have HW6 := Lib.hid (Nat.le_trans HW5.out ho.size)
          have CS := Lib.hid (span_any hw6)
          unfold Wd.ptr at CS
          dsimp only at CS
          clear hw6 ho CAp W5 BB5 HW5
          go_wp2_with fail
          refine CS.out.mono ?_
          rintro e w7 ⟨rfl, n3, hw7⟩
          have C7 := Lib.hid (show Below w6.heap.size w6 w7 by rw [hw7]; exact below_drewN (Below.refl _ _) n3)
          have W7 := Lib.hid (W6.out.kept C7.out)
          have B7 := Lib.hid (below_then B6.out C7.out B6.out.size)
          have HW7 := Lib.hid (Nat.le_trans HW6.out C7.out.size)
          have CR := Lib.hid (room_any W7.out)
          unfold Wd.ptr at CR
          dsimp only at CR
          clear hw7 CS C7 W6 B6 HW6
          go_wp2_with fail
          refine CR.out.mono ?_
          rintro e w8 ⟨rfl, n4, hw8⟩
          have C8 := Lib.hid (show Below w7.heap.size w7 w8 by rw [hw8]; exact below_drewN (Below.refl _ _) n4)
          have W8 := Lib.hid (W7.out.kept C8.out)
          have B8 := Lib.hid (below_then B7.out C8.out B7.out.size)
          have HW8 := Lib.hid (Nat.le_trans HW7.out C8.out.size)
          clear hw8 CR C8 W7 B7 HW7
          have hr0 : (((L2.room : Nat) : Int) != (L.room : Int) - (rec.size : Int) - 2) = false := by rw [HR.out]; simp
          have hf0 : (((L2.fin : Nat) : Int) != (L.fin : Int) + (rec.size : Int) + 2) = false := by rw [HF.out]; simp
          go_wp2_with fail
          go_roundw
          case rel => exact ⟨j + 1, _, L2, by have := HLT.out; omega, by go_num, rfl, W8.out, M1.out, M2.out, HW8.out, B8.out⟩
          case measure => have := HLT.out; simp [intOf]; omega
    · go_wp2_with fail
      go_ret
      exact ⟨rfl, BB.out⟩
end Go.Proofs.Ytplcddcdhnjfeaa
