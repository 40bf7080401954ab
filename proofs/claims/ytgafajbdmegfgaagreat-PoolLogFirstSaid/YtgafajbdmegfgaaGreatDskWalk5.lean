/- The walk of package disk: Crash. -/
import Derived.Test.YtgafajbdmegfgaaGreatDskWalk
set_option linter.unusedVariables false
set_option linter.unusedSimpArgs false
namespace Go.Proofs.YtgafajbdmegfgaaGreat
open Go.RowKit

/-- A slice of bools that came in. -/
def Kb (w : World) (B : Nat) (v : Value) (m : Nat) (kb : Nat → Bool) : Prop :=
  ∃ a c, v = .slice a m c ∧ (0 < m → ∃ b off, a = some (⟨b, off, none⟩ : Addr) ∧ b < B ∧ ∀ i, i < m → w.cell? ⟨b, off + i, none⟩ = some (.bool (kb i)))
theorem Kb.kept {w w' : World} {B B' : Nat} {v : Value} {m : Nat} {kb : Nat → Bool} (h : Kb w B v m kb) (hb : Below B' w w') (hB : B ≤ B') : Kb w' B v m kb := by
  obtain ⟨a, c, e, h⟩ := h
  refine ⟨a, c, e, fun hm => ?_⟩
  obtain ⟨b, off, e1, hlt, hc⟩ := h hm
  exact ⟨b, off, e1, hlt, fun i hi => by rw [hb.cell (p := ⟨b, off + i, none⟩) (by show b < B'; omega)]; exact hc i hi⟩
theorem Kb.nil (w : World) (B : Nat) (kb : Nat → Bool) : Kb w B (.slice none 0 0) 0 kb := ⟨none, 0, rfl, fun h => absurd h (Nat.lt_irrefl 0)⟩

/-- The firm bytes behind a crash: the first k pending writes, such as are kept. -/
def keepTo (l : List ByteArray) (ps : List (Nat × ByteArray)) (m : Nat) (kb : Nat → Bool) : Nat → List ByteArray
  | 0 => l
  | k + 1 => if k < m ∧ kb k = true then (keepTo l ps m kb k).set (ps.getD k (0, ⟨#[]⟩)).1 (ps.getD k (0, ⟨#[]⟩)).2 else keepTo l ps m kb k
theorem keepTo_length (l : List ByteArray) (ps : List (Nat × ByteArray)) (m : Nat) (kb : Nat → Bool) : ∀ k, (keepTo l ps m kb k).length = l.length
  | 0 => rfl
  | k + 1 => by simp only [keepTo]; split <;> simp [keepTo_length l ps m kb k]
theorem keepTo_sizes (l : List ByteArray) (ps : List (Nat × ByteArray)) (m : Nat) (kb : Nat → Bool) (hl : ∀ i, i < l.length → (l.getD i ⟨#[]⟩).size = 64) (hp : ∀ p ∈ ps, p.2.size = 64) : ∀ k, k ≤ ps.length → ∀ i, i < (keepTo l ps m kb k).length → ((keepTo l ps m kb k).getD i ⟨#[]⟩).size = 64
  | 0 => fun _ => hl
  | k + 1 => fun hk => by
    have ih := keepTo_sizes l ps m kb hl hp k (by omega)
    simp only [keepTo]
    split
    · refine set_sizes ih _ _ ?_
      rw [List.getD_eq_getElem?_getD, List.getElem?_eq_getElem (by omega : k < ps.length)]
      exact hp _ (List.getElem_mem _)
    · exact ih
def Dsk.crash (S : Dsk) (m : Nat) (kb : Nat → Bool) : Dsk := .start (keepTo S.firm S.pend m kb S.pend.length)

set_option maxHeartbeats 4000000 in
theorem crash_any {w : World} {B : Nat} {I : Ids} {S : Dsk} (h : Dk w B I S) (v : Value) (m : Nat) (kb : Nat → Bool) (hv : Kb w B v m kb) :
    Calls Tryz.prog 14 #[I.ptr, v] w fun e w' => ∃ J : Ids, e = .returned J.ptr ∧ Dk w' B I { S with down := true } ∧ Dk w' w.heap.size J (S.crash m kb) ∧ Out w w' I.foot ∧ J.p = .slice none 0 0 := by
  obtain ⟨a, c, rfl, hk⟩ := hv
  obtain ⟨c0, c1, c2, c3, c4⟩ := h.cells
  have f4 := h.box.fz 4
  have hd := h.setDown
  have ho : Out w (w.setCell ⟨I.g, 4, none⟩ (.bool true)) I.foot := (Out.refl w _).set (fun _ => .inl rfl) _
  have hkeep : Kb (w.setCell ⟨I.g, 4, none⟩ (.bool true)) B (.slice a m c) m kb := Kb.kept ⟨a, c, rfl, hk⟩ ((Below.refl B w).setCell (p := ⟨I.g, 4, none⟩) h.bg _) (Nat.le_refl _)
  have hpl := h.plen
  have hok := h.ok
  have cl := clone_any I.f S.firm.length I.fc S.firm (w.setCell ⟨I.g, 4, none⟩ (.bool true)) rfl (by have := hok.most; omega) (fun j hj => by
    rw [hd.firm.cell (i := j) (by simpa using hj), List.getElem?_map, List.getD_eq_getElem?_getD, List.getElem?_eq_getElem hj]; rfl)
  obtain ⟨pa, pc, ep⟩ := h.pval
  have H := Lib.hid h; have HD := Lib.hid hd; have HO := Lib.hid ho; have HK := Lib.hid hkeep; have CL := Lib.hid cl; have EP := Lib.hid ep; have HOK := Lib.hid hok
  rw [ep] at c2
  clear h hd ho hk hkeep cl ep hok
  unfold Ids.ptr
  go_enter Tryz.func14, Tryz.ntmps14
  go_wp2_with fail
  refine CL.out.mono ?_
  rintro e w1 ⟨v', rfl, hown, hne, hb⟩
  obtain ⟨n, nc, cur, rfl, hn, hh, hle, hm, hcs, ht⟩ : ∃ g cap cur, v' = .slice (some ⟨g, 0, none⟩) S.firm.length cap ∧ (w.setCell ⟨I.g, 4, none⟩ (.bool true)).heap.size ≤ g ∧ w1.heap[g]? = some (.cells cur 9 (0, 0)) ∧ S.firm.length ≤ cap ∧ cap ≤ maxLen ∧ cur.size = cap * 1 ∧ cur.toList.take (S.firm.length * 1) = S.firm.map .string := by
    rcases hown.2 with ⟨_, e⟩ | h
    · have := HOK.out.one; omega
    · exact h
  have hn' : w.heap.size ≤ n := by simpa [World.setCell] using hn
  have n1 : Rw w1 n 9 (S.firm.map .string) := ⟨cur, hh, by simpa using ht⟩
  have d1 := HD.out.kept hb
  have o1 : Out w w1 I.foot := HO.out.then_ (Out.of_below hb I.foot) (fun _ _ h => h)
  have k1 := HK.out.kept (B' := B) (hb.mono (by have := HD.out.box.lt; have := H.out.bg; omega)) (Nat.le_refl _)
  obtain ⟨c0, c1, c2, c3, c4⟩ := d1.cells
  rw [EP.out] at c2
  have N1 := Lib.hid n1; have D1 := Lib.hid d1; have O1 := Lib.hid o1; have K1 := Lib.hid k1
  clear n1 d1 o1 k1 hb hown hne hh ht hn hcs c0 c1 c3 c4
  go_wp2
  go_loopw [23] (fun i wr => ∃ k : Nat, k ≤ S.pend.length ∧ i = .int .i64 k ∧ Dk wr B I { S with down := true } ∧ Rw wr n 9 ((keepTo S.firm S.pend m kb k).map .string) ∧ Out w wr I.foot ∧ Kb wr B (.slice a m c) m kb) (fun i _ => S.pend.length - (intOf i).toNat)
  case atStart => exact ⟨0, Nat.zero_le _, rfl, D1.out, N1.out, O1.out, K1.out⟩
  case round =>
    obtain ⟨k, hk, rfl, hD, hN, hO, hK⟩ := hrel
    by_cases hlt : k < S.pend.length
    · obtain ⟨gp, c', e', hgp, q0, q1⟩ := hD.pcell k hlt
      have e2 := EP.out
      rw [e2] at e'
      injection e' with e3 e4 e5
      subst e3 e5
      have q0' : wr.cell? ⟨gp, k * 2, none⟩ = some (.int .i64 (S.pend[k].1 : Int)) := q0
      have q1' : wr.cell? ⟨gp, k * 2 + 1, none⟩ = some (.string S.pend[k].2) := q1
      have hs0 : S.pend[k].1 < S.firm.length := HOK.out.pend _ (List.getElem_mem hlt)
      have hst : keepTo S.firm S.pend m kb (k + 1) = if k < m ∧ kb k = true then (keepTo S.firm S.pend m kb k).set S.pend[k].1 S.pend[k].2 else keepTo S.firm S.pend m kb k := by
        simp only [keepTo, List.getD_eq_getElem?_getD, List.getElem?_eq_getElem hlt, Option.getD_some]
      have HLT := Lib.hid hlt
      have hl := keepTo_length S.firm S.pend m kb k
      generalize S.pend[k] = pk at *
      obtain ⟨s, d⟩ := pk
      simp only at q0' q1' hs0 hst
      have LD : Dk (wr.alloc (.cells #[.int .i64 s, .string d] 93)) B I { S with down := true } := hD.kept ((Below.refl _ _).alloc (Nat.le_refl _) _)
      have LN := hN.alloc (.cells #[.int .i64 s, .string d] 93)
      have LO := hO.alloc (.cells #[.int .i64 s, .string d] 93)
      have LK := hK.kept (((Below.refl _ _).alloc (Nat.le_refl _) (.cells #[.int .i64 s, .string d] 93))) (by have := hD.box.lt; have := H.out.bg; omega)
      have hlN := hN.lt; have hlg := hD.box.lt; have hbg := H.out.bg
      have HLD := Lib.hid LD; have HLN := Lib.hid LN; have HLO := Lib.hid LO; have HLK := Lib.hid LK
      have LD2 : Dk ((wr.setCell ⟨n, s, none⟩ (.string d)).alloc (.cells #[.int .i64 s, .string d] 93)) B I { S with down := true } :=
        (hD.of_same fun j hj => Below.heap_setCell wr _ _ j (by have := (H.out.foot_lt hj).2; show j ≠ n; omega)).kept ((Below.refl _ _).alloc (Nat.le_refl _) _)
      have LN2 := (hN.set s (.string d) (by rw [List.length_map, hl]; exact hs0)).alloc (.cells #[.int .i64 s, .string d] 93)
      have LO2 := (hO.set (q := ⟨n, s, none⟩) (fun hx => absurd hx (by show ¬ n < w.heap.size; omega)) (.string d)).alloc (.cells #[.int .i64 s, .string d] 93)
      have LK2 := hK.kept (B' := B) (((Below.refl B wr).setCell (p := ⟨n, s, none⟩) (by show B ≤ n; have := H.out.box.lt; omega) (.string d)).alloc (by simp [World.setCell]; omega) (.cells #[.int .i64 s, .string d] 93)) (Nat.le_refl _)
      rw [← List.map_set] at LN2
      have HLD2 := Lib.hid LD2; have HLN2 := Lib.hid LN2; have HLO2 := Lib.hid LO2; have HLK2 := Lib.hid LK2
      clear LD LO LK LD2 LN2 LO2 LK2 hD hO q0 q1 e2
      by_cases hkm : k < m
      · obtain ⟨a', cc, ea, hk0⟩ := hK
        injection ea with ea1 ea2 ea3
        subst ea1 ea3
        obtain ⟨b, off, rfl, hbB, hcell⟩ := hk0 (by omega)
        have q2 := hcell k hkm
        have q3 : (wr.alloc (.cells #[.int .i64 s, .string d] 93)).cell? ⟨b, off + k, none⟩ = some (.bool (kb k)) := Lib.cell?_alloc_some _ q2
        have hbl : b < wr.heap.size := by omega
        rcases hkb : kb k with _ | _
        · rw [hkb] at q2 q3
          rw [if_neg (by rw [hkb]; simp)] at hst
          have HST := Lib.hid hst
          clear hst hcell hk0 hkb LN hN
          go_wp2
          go_roundw
          case rel => exact ⟨k + 1, HLT.out, by have := HLT.out; go_num, HLD.out, by rw [HST.out]; exact HLN.out, HLO.out, HLK.out⟩
          case measure => have := HLT.out; simp [intOf]; omega
        · rw [hkb] at q2 q3
          rw [if_pos ⟨hkm, hkb⟩] at hst
          have HST := Lib.hid hst
          have fc := LN.cell (i := s) (by rw [List.length_map, hl]; exact hs0)
          rw [List.getElem?_eq_getElem (by rw [List.length_map, hl]; exact hs0)] at fc
          have ff := LN.fz s
          clear hst hcell hk0 hkb LN hN
          go_wp2
          go_roundw
          case rel => exact ⟨k + 1, HLT.out, by have := HLT.out; go_num, HLD2.out, by rw [HST.out]; exact HLN2.out, HLO2.out, HLK2.out⟩
          case measure => have := HLT.out; simp [intOf]; omega
      · rw [if_neg (fun e => hkm e.1)] at hst
        have HST := Lib.hid hst
        clear hst LN hN hK
        go_wp2
        go_roundw
        case rel => exact ⟨k + 1, HLT.out, by have := HLT.out; go_num, HLD.out, by rw [HST.out]; exact HLN.out, HLO.out, HLK.out⟩
        case measure => have := HLT.out; simp [intOf]; omega
    · obtain rfl : k = S.pend.length := by omega
      have hl := keepTo_length S.firm S.pend m kb S.pend.length
      have o := over_any wr w.heap.size n nc (keepTo S.firm S.pend m kb S.pend.length) hN (by rw [hl]; exact HOK.out.one) (by rw [hl]; exact HOK.out.most) (keepTo_sizes _ _ _ _ HOK.out.fsizes HOK.out.psizes _ (Nat.le_refl _)) hn'
      rw [hl] at o
      have OV := Lib.hid o; have HDD := Lib.hid hD; have HOO := Lib.hid hO
      clear o hN hD hO hK hl
      go_wp2_with fail
      refine OV.out.mono ?_
      rintro e w5 ⟨J, rfl, _, hj, hb5, _, _, hjp⟩
      have HJ := Lib.hid hj; have HOF := Lib.hid (HOO.out.then_ (Out.of_below hb5 I.foot) (fun _ _ h => h)); have HD5 := Lib.hid (HDD.out.kept hb5)
      clear hj hb5
      unfold Ids.ptr
      go_wp2
      go_ret
      exact ⟨J, rfl, HD5.out, HJ.out, HOF.out, hjp⟩
end Go.Proofs.YtgafajbdmegfgaaGreat
