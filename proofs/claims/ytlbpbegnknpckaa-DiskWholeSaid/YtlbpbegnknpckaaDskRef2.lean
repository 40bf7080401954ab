/- The walks of the reference's device: Write, Barrier. -/
import Derived.Test.YtlbpbegnknpckaaDskRef
set_option linter.unusedVariables false
set_option linter.unusedSimpArgs false
namespace Go.Proofs.Ytlbpbegnknpckaa
open Go.RowKit

theorem Try.info70 : (Try.prog.info? 70).map (fun i => (i.zero, i.size, i.bytes)) = some (some (.agg #[.int .i64 0, .string ⟨#[]⟩]), 2, 24) := by kernel_rfl

set_option maxHeartbeats 2000000 in
theorem rwrite_good {w : World} {B : Nat} {I : Rds} {S : Dsk} (h : Rk w B I S) (k : Nat) (d : ByteArray) (hd : S.down = false) (hk : k < S.firm.length) (h64 : d.size = 64) (hf : S.fuel ≠ 0) (hB : B ≤ w.heap.size) (hp : S.pend.length ≤ 8796093022208) :
    Calls Try.prog 16 #[I.ptr, .int .i64 k, .string d] w fun e w' => e = .returned (.int .i64 0) ∧ ∃ p', Rk w' B (I.with p') (S.wrote k d) ∧ Out w w' I.foot := by
  have hok := wrote_ok h.ok k d hk h64
  obtain ⟨c0, c1, c2, c3⟩ := h.cells
  rw [hd] at c3
  have b := rburn_on h hf
  obtain ⟨i0, hi, hz0, hz1, hz2⟩ := info_parts Try.info70
  have BU := Lib.hid b; have H := Lib.hid h; have HF := Lib.hid hf; have HP := Lib.hid hp
  have t64 : ((d.size : Int) != 64) = false := by simp [h64]
  clear b h hf hd h64
  unfold Rds.ptr at BU ⊢
  go_enter Try.func16, Try.ntmps16
  go_wp2_with fail
  refine BU.out.mono ?_
  rintro e w1 ⟨rfl, h1, ho1⟩
  obtain ⟨c0, c1, c2, c3⟩ := h1.cells
  have H1 := Lib.hid h1; have HO1 := Lib.hid ho1
  clear c0 c2 c3 h1 ho1
  go_wp2_with (at_builtin; refine wpList_append_one _ rfl _ _ 40 rfl B 70 i0 (.agg #[.int .i64 0, .string { data := #[] }]) 2 24 Try.underlying40 hi hz0 hz1 hz2 rfl I.p S.pend.length (pcells S.pend) rfl (owns_of_block H1.out.pend (fun k hk => Below.heap_alloc _ _ k (H1.out.foot_lt (.inr (.inr hk))).2)) ⟨w1.heap.size, 0, none⟩ 1 [.int .i64 k, .string d] rfl rfl ?qc2 ?qc3 ?qc4 (by omega) ?qc5 ?qc6 ?_)
  case qc2 =>
    intro j u hj
    have hn := (Bk.new w1 70 #[.int .i64 k, .string d]).cell j
    rw [Addr.add_lit, Nat.zero_add, hn]
    simpa using hj
  case qc3 => intro u hu; simp at hu; rcases hu with rfl | rfl <;> rfl
  case qc4 => have := HP.out; unfold maxLen; omega
  case qc5 => have := HP.out; omega
  case qc6 => have := HO1.out.size; simp; omega
  intro p' w2 hown hgrow
  have h1 := H1.out
  have b2 : Bk w2 I.g 42 (I.box S.burnt) := (h1.box.alloc _).grown hgrow (fun e => (h1.pg e.symm).1 rfl)
  have f2 : Rw w2 I.f 9 (S.firm.map .string) := (h1.firm.alloc _).of_block (hgrow.block _ (h1.firm.alloc _).lt (fun e => (h1.pg e.symm).2 rfl))
  have hpb : ∀ j, p'.ownBlock = some j → j ≠ I.g := fun j hj => by
    obtain ⟨_, _, cur, hc⟩ := owns_block hown hj
    exact hc.ne_ b2 (by decide)
  have hD : Rk (w2.setCell ⟨I.g, 1, none⟩ p') B (I.with p') (S.wrote k d) := by
    refine ⟨b2.set 1 p', f2.far h1.gf _, ?_, h1.bg, h1.bf, hok⟩
    have e : pcells (S.wrote k d).pend = pcells S.pend ++ [.int .i64 k, .string d] := pcells_append _ _
    rw [e]
    have := owns_of_block hown (w' := w2.setCell ⟨I.g, 1, none⟩ p') (fun j hj => Below.heap_setCell _ _ _ j (hpb j hj))
    simpa [Rds.with, Dsk.wrote, Dsk.burnt] using this
  have hO : Out w (w2.setCell ⟨I.g, 1, none⟩ p') I.foot := by
    have o2 : Out w w2 I.foot := (HO1.out.alloc _).then_ (Out.of_grown hgrow (p := I.foot) (fun j hj _ => .inr (.inr hj))) (fun _ _ h => h)
    exact o2.set (fun _ => .inl rfl) _
  have d1 := b2.cell 1; have e1 := b2.fz 1
  simp only [Rds.box, Dsk.burnt, List.getElem?_toArray, List.getElem?_cons_zero, List.getElem?_cons_succ] at d1
  have HD := Lib.hid hD; have HO := Lib.hid hO
  obtain ⟨gp, cap, rfl⟩ : ∃ a c, p' = .slice a (S.pend.length + 1) c := by
    rcases hown.2 with ⟨_, e⟩ | ⟨_, _, _, e, _⟩
    · omega
    · exact ⟨_, _, e⟩
  clear h1 b2 f2 hpb hD hO hown hgrow H1 HO1 hok
  go_wp2
  go_ret
  exact ⟨rfl, _, HD.out, HO.out⟩

theorem rwrite_any {w : World} {B : Nat} {I : Rds} {S : Dsk} (h : Rk w B I S) (i : Int) (d : ByteArray) (hB : B ≤ w.heap.size) (hp : S.pend.length ≤ 8796093022208) :
    Calls Try.prog 16 #[I.ptr, .int .i64 i, .string d] w fun e w' => e = .returned (.int .i64 (S.write i d).2) ∧ ∃ p', Rk w' B (I.with p') (S.write i d).1 ∧ Out w w' I.foot := by
  unfold Dsk.write
  obtain ⟨c0, c1, c2, c3⟩ := h.cells
  rcases hd : S.down with _ | _
  · rw [if_neg (by simp)]
    by_cases hi : 0 ≤ i ∧ i < S.firm.length ∧ d.size = 64
    · rw [if_pos hi]
      obtain ⟨k, rfl⟩ := Int.eq_ofNat_of_zero_le hi.1
      by_cases hf : S.fuel = 0
      · rw [if_pos hf]
        have b := rburn_out h hf
        have t64 : ((d.size : Int) != 64) = false := by simp [hi.2.2]
        have hk : (k : Int) < S.firm.length := hi.2.1
        rw [hd] at c3
        have BU := Lib.hid b
        clear h b hf hd hi hp hB
        unfold Rds.ptr at BU ⊢
        go_enter Try.func16, Try.ntmps16
        go_wp2_with fail
        refine BU.out.mono ?_
        rintro e w1 ⟨rfl, h1, ho1⟩
        have H1 := Lib.hid h1; have HO1 := Lib.hid ho1; clear h1 ho1
        go_wp2
        go_ret
        exact ⟨rfl, I.p, H1.out, HO1.out⟩
      · rw [if_neg hf]
        have := rwrite_good h k d hd (by omega) hi.2.2 hf hB hp
        rw [Int.toNat_natCast]
        exact this
    · rw [if_neg hi]
      rw [hd] at c3
      have H := Lib.hid h
      by_cases h0 : i < 0
      · clear h hd hi hp hB
        unfold Rds.ptr
        go_enter Try.func16, Try.ntmps16
        go_wp2
        go_ret
        first | exact ⟨rfl, I.p, H.out, Out.refl _ _⟩ | exact ⟨rfl, ⟨I.p, H.out⟩, Out.refl _ _⟩
      · by_cases h1 : i < S.firm.length
        · have t64 : ((d.size : Int) != 64) = true := by simp; intro e; exact hi ⟨by omega, h1, by omega⟩
          clear h hd hi hp hB
          unfold Rds.ptr
          go_enter Try.func16, Try.ntmps16
          go_wp2
          go_ret
          first | exact ⟨rfl, I.p, H.out, Out.refl _ _⟩ | exact ⟨rfl, ⟨I.p, H.out⟩, Out.refl _ _⟩
        · have hge : (S.firm.length : Int) ≤ i := by omega
          clear h hd hi hp hB
          unfold Rds.ptr
          go_enter Try.func16, Try.ntmps16
          go_wp2
          go_ret
          first | exact ⟨rfl, I.p, H.out, Out.refl _ _⟩ | exact ⟨rfl, ⟨I.p, H.out⟩, Out.refl _ _⟩
  · rw [if_pos rfl]
    rw [hd] at c3
    have H := Lib.hid h
    clear h hd hp hB
    unfold Rds.ptr
    go_enter Try.func16, Try.ntmps16
    go_wp2
    go_ret
    first | exact ⟨rfl, I.p, H.out, Out.refl _ _⟩ | exact ⟨rfl, ⟨I.p, H.out⟩, Out.refl _ _⟩

set_option maxHeartbeats 2000000 in
theorem rbarrier_good {w : World} {B : Nat} {I : Rds} {S : Dsk} (h : Rk w B I S) (hd : S.down = false) (hf : S.fuel ≠ 0) :
    Calls Try.prog 18 #[I.ptr] w fun e w' => e = .returned (.int .i64 0) ∧ Rk w' B (I.with (.slice none 0 0)) S.synced ∧ Out w w' I.foot := by
  obtain ⟨c0, c1, c2, c3⟩ := h.cells
  rw [hd] at c3
  have b := rburn_on h hf
  have lo : ∀ i, i < S.pend.length → S.pend[i]!.1 < S.firm.length ∧ S.pend[i]!.2.size = 64 := fun i hi => by
    rw [getElem!_pos S.pend i hi]
    exact ⟨h.ok.pend _ (List.getElem_mem hi), h.ok.psizes _ (List.getElem_mem hi)⟩
  obtain ⟨a, c, ep⟩ := h.pval
  have LO := Lib.hid lo
  have hpl := h.plen
  have BU := Lib.hid b
  have EP := Lib.hid ep
  clear b h hf hd lo ep
  unfold Rds.ptr at BU ⊢
  go_enter Try.func18, Try.ntmps18
  go_wp2_with fail
  refine BU.out.mono ?_
  rintro e w1 ⟨rfl, h1, ho1⟩
  have H1 := Lib.hid h1; have HO1 := Lib.hid ho1
  clear h1 ho1
  go_wp2
  go_loopw [3] (fun i wr => ∃ k : Nat, k ≤ S.pend.length ∧ i = .int .i64 k ∧ Rk wr B I (S.burnt.firmed (apply S.firm (S.pend.take k))) ∧ Out w wr I.foot) (fun i _ => S.pend.length - (intOf i).toNat)
  case atStart => exact ⟨0, Nat.zero_le _, rfl, H1.out, HO1.out⟩
  case round =>
    obtain ⟨k, hk, rfl, hD, hO⟩ := hrel
    obtain ⟨c0, c1, c2, c3⟩ := hD.cells
    have l1 : (S.burnt.firmed (apply S.firm (S.pend.take k))).firm.length = S.firm.length := apply_length _ _
    rw [l1] at c0
    rw [EP.out] at c1
    by_cases hlt : k < S.pend.length
    · obtain ⟨gp, c', e', hgp, q0, q1⟩ := hD.pcell k hlt
      have e2 := EP.out
      rw [e2] at e'
      injection e' with e3 e4 e5
      subst e3 e5
      have hs1 := (LO.out k hlt)
      rw [getElem!_pos S.pend k hlt] at hs1
      have hst := apply_take S.firm S.pend k hlt
      have q0' : wr.cell? ⟨gp, k * 2, none⟩ = some (.int .i64 (S.pend[k].1 : Int)) := q0
      have q1' : wr.cell? ⟨gp, k * 2 + 1, none⟩ = some (.string S.pend[k].2) := q1
      have HLT := Lib.hid hlt
      have hki : (k : Int) < (S.pend.length : Int) := by omega
      generalize S.pend[k] = pk at *
      obtain ⟨s, d⟩ := pk
      simp only at hs1 hst q0' q1'
      have hs0 := hs1.1
      have hs64 := hs1.2
      have fc := hD.firm.cell (i := s) (by rw [List.length_map, l1]; exact hs0)
      rw [List.getElem?_eq_getElem (by rw [List.length_map, l1]; exact hs0)] at fc
      have ff := hD.firm.fz s
      have hD2 : Rk (wr.setCell ⟨I.f, s, none⟩ (.string d)).drew B I (S.burnt.firmed (apply S.firm (S.pend.take (k + 1)))) := by
        rw [hst]
        exact (hD.setFirm s d (by rw [l1]; exact hs0) hs64).kept ((Below.refl _ _).drew)
      have hO2 := (hO.set (q := ⟨I.f, s, none⟩) (fun _ => .inr (.inl rfl)) (.string d)).drew
      have HD := Lib.hid hD2; have HO := Lib.hid hO2
      clear hD hO hD2 hO2 hst q0 q1 e2 hs1
      go_wp2_with fail
      go_region
      go_wp2
      go_roundw
      case rel => exact ⟨k + 1, HLT.out, by have := HLT.out; go_num, HD.out, HO.out⟩
      case measure => have := HLT.out; simp [intOf]; omega
    · obtain rfl : k = S.pend.length := by omega
      rw [List.take_length] at hD
      have f1 := hD.box.fz 1
      have hD2 : Rk (wr.setCell ⟨I.g, 1, none⟩ (.slice none 0 0)) B (I.with (.slice none 0 0)) S.synced := hD.setNil
      have hO2 := hO.set (q := ⟨I.g, 1, none⟩) (fun _ => .inl rfl) (.slice none 0 0)
      have HD := Lib.hid hD2; have HO := Lib.hid hO2
      clear hD hO hD2 hO2
      go_wp2
      go_ret
      exact ⟨rfl, HD.out, HO.out⟩

theorem rbarrier_any {w : World} {B : Nat} {I : Rds} {S : Dsk} (h : Rk w B I S) :
    Calls Try.prog 18 #[I.ptr] w fun e w' => e = .returned (.int .i64 S.barrier.2) ∧ ∃ p', Rk w' B (I.with p') S.barrier.1 ∧ Out w w' I.foot := by
  unfold Dsk.barrier
  obtain ⟨c0, c1, c2, c3⟩ := h.cells
  rcases hd : S.down with _ | _
  · rw [if_neg (by simp)]
    by_cases hf : S.fuel = 0
    · rw [if_pos hf]
      have b := rburn_out h hf
      rw [hd] at c3
      have BU := Lib.hid b
      clear h b hf hd
      unfold Rds.ptr at BU ⊢
      go_enter Try.func18, Try.ntmps18
      go_wp2_with fail
      refine BU.out.mono ?_
      rintro e w1 ⟨rfl, h1, ho1⟩
      have H1 := Lib.hid h1; have HO1 := Lib.hid ho1; clear h1 ho1
      go_wp2
      go_ret
      exact ⟨rfl, I.p, H1.out, HO1.out⟩
    · rw [if_neg hf]
      refine (rbarrier_good h hd hf).mono ?_
      rintro e w1 ⟨he, h1, h2⟩
      exact ⟨he, _, h1, h2⟩
  · rw [if_pos rfl]
    rw [hd] at c3
    have H := Lib.hid h
    clear h hd
    unfold Rds.ptr
    go_enter Try.func18, Try.ntmps18
    go_wp2
    go_ret
    first | exact ⟨rfl, I.p, H.out, Out.refl _ _⟩ | exact ⟨rfl, ⟨I.p, H.out⟩, Out.refl _ _⟩
end Go.Proofs.Ytlbpbegnknpckaa
