/- (*Table).All where the table holds nothing. -/
import Derived.Test.YtnpnpkaklamboaaDoorLkRd
set_option linter.unusedVariables false
set_option linter.unusedSimpArgs false
namespace Go.Proofs.YtnpnpkaklamboaaDoor
open Go.RowKit Go.Shelf Go.Maps

set_option maxRecDepth 100000 in
set_option maxHeartbeats 4000000 in
theorem all_none {w : World} {F : Nat → Prop} {t C : Nat} {T : Tbl} (h : Tm w F t C T) (he : ∀ n, T.qs n = none) :
    Calls Tryd.prog 13 #[ptr t] w fun e w' => e = .returned (.slice none 0 0) ∧ Below w.heap.size w w' := by
  obtain ⟨a, b, fq, gq, Fn, h0⟩ := h
  have y0 : w.cell? ⟨t, 0, none⟩ = some (.map (some a)) := h0.bk.cell 0
  have H0 := Lib.hid h0
  have HE := Lib.hid he
  clear h0 he
  obtain ⟨r, hr⟩ : ∃ r, r = w.heap.size := ⟨_, rfl⟩
  have HR := Lib.hid hr
  go_enter Tryd.func13, Tryd.ntmps13
  go_wp2_with (first
    | (at_range; refine wpList_mp_range _ rfl _ 51 rfl 27 55 nm_keyed Tryd.underlying51 a C _ rfl H0.out.mq ?_; rw [← hr]; intro w2 left0 cnt0 hl0 hr0 hg0 hs0)
    | fail)
  have B0 := Lib.hid (below_only hg0)
  have L0 := Lib.hid (show ∀ kl, WideAt.IsKeyLit kl → left0 kl = (fq kl).isSome from hl0)
  have R0 := Lib.hid hr0
  clear y0 hr hl0 hr0 hg0 hs0
  go_frame
  go_loopw [3] (fun s3 wr => s3 = .slice none 0 0 ∧ wr = w2) (fun _ _ => 0)
  case atStart => exact ⟨rfl, rfl⟩
  case round =>
    obtain ⟨rfl, rfl⟩ := hrel
    go_wp2_with (first
      | (at_next; refine wpList_nm_next _ rfl _ rfl a r C fq left0 cnt0 rfl R0.out ?_ ?_)
      | fail)
    · intro _ _
      have CS := Lib.hid (AnyF.slices_SortFunc_none Tryd.sortName none 0 (.func (.func 23) #[] #[]) wr)
      go_wp2_with fail
      refine CS.out.mono ?_
      rintro e w3 ⟨rfl, rfl⟩
      clear CS
      go_wp2_with fail
      go_loopw [5, 32] (fun s5 s32 wx => s5 = .slice none 0 0 ∧ s32 = .int .i64 0 ∧ wx = w3) (fun _ _ _ => 0)
      case atStart => exact ⟨rfl, rfl, rfl⟩
      case round =>
        obtain ⟨rfl, rfl, rfl⟩ := hrel
        go_wp2
        go_ret
        exact ⟨rfl, B0.out⟩
    · intro n c w1 cnt1 hnw hln hfn hm1 hc1 hg1 hs1 hen
      exfalso
      rw [H0.out.hq n hnw, HE.out n] at hfn
      cases hfn
theorem l1_all0 {w0 w : World} {S : Nat → Prop} {t k : Nat} {T : Tbl} (h : L1 w0 S w t k T) (he : ∀ n, T.qs n = none) :
    Calls Tryd.prog 13 #[ptr t] w fun e w' => e = .returned (.slice none 0 0) ∧ Below w.heap.size w w' := by
  obtain ⟨F, h1, h2, h3⟩ := h.lt
  exact all_none h1.tm he
end Go.Proofs.YtnpnpkaklamboaaDoor
