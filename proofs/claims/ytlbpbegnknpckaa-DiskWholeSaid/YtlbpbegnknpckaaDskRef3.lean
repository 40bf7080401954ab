/- The walk of the reference's device: Crash. -/
import Derived.Test.YtlbpbegnknpckaaDskRef2
set_option linter.unusedVariables false
set_option linter.unusedSimpArgs false
namespace Go.Proofs.Ytlbpbegnknpckaa
open Go.RowKit

theorem keepTo_stop (l : List ByteArray) (ps : List (Nat × ByteArray)) (m : Nat) (kb : Nat → Bool) (k : Nat) (hk : m ≤ k) : ∀ j, keepTo l ps m kb (k + j) = keepTo l ps m kb k
  | 0 => rfl
  | j + 1 => by
    rw [← Nat.add_assoc]
    simp only [keepTo]
    rw [if_neg (by omega)]
    exact keepTo_stop l ps m kb k hk j
theorem Rk.renow {w : World} {B : Nat} {I : Rds} {S T : Dsk} (h : Rk w B I S) (hf : T.firm = S.firm) (hp : T.pend = S.pend) (hu : T.fuel = S.fuel) (hd : T.down = S.down) (hok : T.ok) : Rk w B I T := by
  refine ⟨?_, by rw [hf]; exact h.firm, by rw [hp]; exact h.pend, h.bg, h.bf, hok⟩
  have e : I.box T = I.box S := by unfold Rds.box; rw [hf, hu, hd]
  rw [e]
  exact h.box

set_option maxHeartbeats 4000000 in
theorem rcrash_any {w : World} {B : Nat} {I : Rds} {S : Dsk} (h : Rk w B I S) (v : Value) (m : Nat) (kb : Nat → Bool) (hv : Kp w B v m kb) :
    Calls Try.prog 21 #[I.ptr, v] w fun e w' => ∃ J : Rds, e = .returned J.ptr ∧ Rk w' B I { S with down := true } ∧ Rk w' w.heap.size J (S.crash m kb) ∧ Out w w' I.foot := by
  obtain ⟨a, c, rfl, hk⟩ := hv
  obtain ⟨c0, c1, c2, c3⟩ := h.cells
  obtain ⟨pa, pc, ep⟩ := h.pval
  have hpl := h.plen
  obtain ⟨i0, hi, hz0, hz1, hz2⟩ := info_parts Try.info9
  have hone := h.ok.one; have hmost := h.ok.most
  have H := Lib.hid h; have HK := Lib.hid hk; have EP := Lib.hid ep
  clear h hk ep
  unfold Rds.ptr
  go_enter Try.func21, Try.ntmps21
  go_wp2_with (at_builtin; refine wpList_append_own _ rfl _ _ 39 rfl w.heap.size 9 i0 (.string { data := #[] }) 1 16 Try.underlying39 hi hz0 hz1 hz2 rfl (by decide) (.slice none 0 0) 0 [] rfl (World.ownsRow_nil _ _ _ _) ⟨I.f, 0, none⟩ S.firm.length I.fc (S.firm.map Value.string) rfl ?qc1 ?qc2 ?qc3 ?qc4 ?qc5 ?qc6 ?_)
  case qc1 => simp
  case qc2 =>
    intro j u hj
    have hjn : j < S.firm.length := by
      have := (List.getElem?_eq_some_iff.1 hj).1
      simpa using this
    rw [Addr.add_lit, Nat.zero_add, H.out.firm.cell (i := j) (by simpa using hjn)]
    exact hj
  case qc3 => intro u hu; obtain ⟨x, _, rfl⟩ := List.mem_map.1 hu; rfl
  case qc4 => unfold maxLen; omega
  case qc5 => omega
  case qc6 => exact Nat.le_refl _
  intro v' w1 hown hgrow hnil
  try simp only [Nat.zero_add, List.nil_append] at hown
  obtain ⟨n, nc, cur, rfl, hn, hh, hle, hm, hcs, ht⟩ : ∃ g cap cur, v' = .slice (some ⟨g, 0, none⟩) S.firm.length cap ∧ w.heap.size ≤ g ∧ w1.heap[g]? = some (.cells cur 9 (0, 0)) ∧ S.firm.length ≤ cap ∧ cap ≤ maxLen ∧ cur.size = cap * 1 ∧ cur.toList.take (S.firm.length * 1) = S.firm.map .string := by
    rcases hown.2 with ⟨_, e⟩ | h
    · omega
    · exact h
  have b1 : Below w.heap.size w w1 := ⟨hgrow.os, hgrow.tape, hgrow.output, hgrow.size, fun i hi => hgrow.block i hi (by simp [Value.ownBlock])⟩
  have n1 : Rw w1 n 9 (S.firm.map .string) := ⟨cur, hh, by simpa using ht⟩
  have hJ : Rk (w1.alloc (.cells (Rds.box ⟨w1.heap.size, n, nc, .slice none 0 0⟩ (.start S.firm)) 42)) w.heap.size ⟨w1.heap.size, n, nc, .slice none 0 0⟩ (.start S.firm) :=
    ⟨Bk.new _ _ _, n1.alloc _, World.ownsRow_nil _ _ _ _, b1.size, hn, start_ok hone hmost H.out.ok.fsizes⟩
  have b2 := b1.alloc b1.size (.cells (Rds.box ⟨w1.heap.size, n, nc, .slice none 0 0⟩ (.start S.firm)) 42)
  have HJ := Lib.hid hJ; have HB2 := Lib.hid b2; have HI2 := Lib.hid (H.out.kept b2)
  have S1 := b1.size
  have hlt1 := H.out.box.lt
  clear c0 c2 c3 b1 n1 hJ b2 hown hgrow hnil hh ht hcs hle hm
  go_wp2
  change Code.wp _ _ _ _ (w1.alloc (.cells (Rds.box ⟨w1.heap.size, n, nc, .slice none 0 0⟩ (.start S.firm)) 42))
  generalize w1.alloc (.cells (Rds.box ⟨w1.heap.size, n, nc, .slice none 0 0⟩ (.start S.firm)) 42) = w2 at *
  go_loopw [6] (fun i wr => ∃ k : Nat, k ≤ S.pend.length ∧ (k ≤ m ∨ k = 0) ∧ i = .int .i64 k ∧ Rk wr B I S ∧ Rk wr w.heap.size ⟨w1.heap.size, n, nc, .slice none 0 0⟩ ((Dsk.start S.firm).firmed (keepTo S.firm S.pend m kb k)) ∧ Below w.heap.size w wr) (fun i _ => S.pend.length - (intOf i).toNat)
  case atStart => exact ⟨0, Nat.zero_le _, .inr rfl, rfl, HI2.out, HJ.out, HB2.out⟩
  case round =>
    obtain ⟨k, hk, hkm0, rfl, hI, hJ, hB⟩ := hrel
    obtain ⟨c0, c1, c2, c3⟩ := hI.cells
    obtain ⟨j0, j1, j2, j3⟩ := hJ.cells
    have l1 : ((Dsk.start S.firm).firmed (keepTo S.firm S.pend m kb k)).firm.length = S.firm.length := keepTo_length _ _ _ _ _
    rw [l1] at j0
    rw [EP.out] at c1
    have hfin : m ≤ k ∨ k = S.pend.length → S.crash m kb = (Dsk.start (keepTo S.firm S.pend m kb k)) := by
      intro hx
      unfold Dsk.crash
      rcases hx with hx | hx
      · rw [show S.pend.length = k + (S.pend.length - k) by omega, keepTo_stop _ _ _ _ _ hx]
      · rw [hx]
    have stop : m ≤ k ∨ k = S.pend.length → Rk wr w.heap.size ⟨w1.heap.size, n, nc, .slice none 0 0⟩ (S.crash m kb) := fun hx => by
      rw [hfin hx]
      exact hJ.renow rfl rfl rfl rfl (start_ok (by rw [keepTo_length]; exact hone) (by rw [keepTo_length]; exact hmost) (keepTo_sizes _ _ _ _ H.out.ok.fsizes H.out.ok.psizes _ hk))
    have hd2 := hI.setDown
    have b4 : Out w (wr.setCell ⟨I.g, 3, none⟩ (.bool true)) I.foot := (Out.of_below hB I.foot).set (fun _ => .inl rfl) _
    have f3 := hI.box.fz 3
    have stop2 : m ≤ k ∨ k = S.pend.length → Rk (wr.setCell ⟨I.g, 3, none⟩ (.bool true)) w.heap.size ⟨w1.heap.size, n, nc, .slice none 0 0⟩ (S.crash m kb) := fun hx =>
      (stop hx).of_same fun q hq => Below.heap_setCell wr _ _ q (by have := ((stop hx).foot_lt hq).1; show q ≠ I.g; omega)
    have HST2 := Lib.hid stop2; have HD2 := Lib.hid hd2; have HB4 := Lib.hid b4; have HII := Lib.hid hI; have HJJ := Lib.hid hJ; have HBB := Lib.hid hB
    clear hfin stop stop2 hd2 b4 hI hJ hB
    by_cases hlt : k < S.pend.length
    · by_cases hkm : k < m
      · obtain ⟨b, off, rfl, hbB, hcell⟩ := HK.out (by omega)
        have hbw : b < w.heap.size := by have := H.out.bg; omega
        have q9 : wr.cell? ⟨b, off + k, none⟩ = some (.bool (kb k)) := by rw [HBB.out.cell (p := ⟨b, off + k, none⟩) hbw]; exact hcell k hkm
        have hki : (k : Int) < (m : Int) := by omega
        have hki2 : (k : Int) < (S.pend.length : Int) := by omega
        have hst : keepTo S.firm S.pend m kb (k + 1) = if k < m ∧ kb k = true then (keepTo S.firm S.pend m kb k).set S.pend[k].1 S.pend[k].2 else keepTo S.firm S.pend m kb k := by
          simp only [keepTo, List.getD_eq_getElem?_getD, List.getElem?_eq_getElem hlt, Option.getD_some]
        have HLT := Lib.hid hlt; have HKM := Lib.hid hkm
        rcases hkb : kb k with _ | _
        · rw [hkb] at q9
          rw [if_neg (by rw [hkb]; simp)] at hst
          have HST := Lib.hid hst
          clear hst hcell hkb hlt hkm
          go_wp2
          go_roundw
          case rel => exact ⟨k + 1, HLT.out, .inl HKM.out, by have := HLT.out; go_num, HII.out, by rw [HST.out]; exact HJJ.out, HBB.out⟩
          case measure => have := HLT.out; simp [intOf]; omega
        · rw [hkb] at q9
          rw [if_pos ⟨hkm, hkb⟩] at hst
          obtain ⟨gp, c', e', hgp, q0, q1⟩ := HII.out.pcell k hlt
          have e2 := EP.out
          rw [e2] at e'
          injection e' with e3 e4 e5
          subst e3 e5
          have hs0 : S.pend[k].1 < S.firm.length := H.out.ok.pend _ (List.getElem_mem hlt)
          have hs64 : S.pend[k].2.size = 64 := H.out.ok.psizes _ (List.getElem_mem hlt)
          generalize S.pend[k] = pk at *
          obtain ⟨s, d⟩ := pk
          simp only at q0 q1 hst hs0 hs64
          have fc := HJJ.out.firm.cell (i := s) (by rw [List.length_map, l1]; exact hs0)
          rw [List.getElem?_eq_getElem (by rw [List.length_map, l1]; exact hs0)] at fc
          have ff := HJJ.out.firm.fz s
          have hJ2 : Rk (wr.setCell ⟨n, s, none⟩ (.string d)).drew w.heap.size ⟨w1.heap.size, n, nc, .slice none 0 0⟩ ((Dsk.start S.firm).firmed (keepTo S.firm S.pend m kb (k + 1))) := by
            rw [hst]
            exact (HJJ.out.setFirm s d (by rw [l1]; exact hs0) hs64).kept ((Below.refl _ _).drew)
          have hI2 : Rk (wr.setCell ⟨n, s, none⟩ (.string d)).drew B I S := (HII.out.of_same fun q hq => Below.heap_setCell wr _ _ q (by have := (H.out.foot_lt hq).2; show q ≠ n; omega)).kept ((Below.refl _ _).drew)
          have hB2 := (HBB.out.setCell (p := ⟨n, s, none⟩) hn (.string d)).drew
          have HJ2 := Lib.hid hJ2; have HI3 := Lib.hid hI2; have HB3 := Lib.hid hB2
          clear hst hcell hkb hlt hkm hJ2 hI2 hB2 e2
          go_wp2_with fail
          go_region
          go_wp2
          go_roundw
          case rel => exact ⟨k + 1, HLT.out, .inl HKM.out, by have := HLT.out; go_num, HI3.out, HJ2.out, HB3.out⟩
          case measure => have := HLT.out; simp [intOf]; omega
      · have hge : (m : Int) ≤ (k : Int) := by omega
        have hki2 : (k : Int) < (S.pend.length : Int) := by omega
        have hx : m ≤ k := by omega
        clear hlt hkm
        go_wp2
        go_ret
        exact ⟨⟨w1.heap.size, n, nc, .slice none 0 0⟩, rfl, HD2.out, HST2.out (.inl hx), HB4.out⟩
    · obtain rfl : k = S.pend.length := by omega
      clear hlt
      go_wp2
      go_ret
      exact ⟨⟨w1.heap.size, n, nc, .slice none 0 0⟩, rfl, HD2.out, HST2.out (.inr (by first | rfl | trivial)), HB4.out⟩
end Go.Proofs.Ytlbpbegnknpckaa
