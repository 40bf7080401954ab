/- Behind a crash, opened twice: plain. -/
import Derived.Test.YtplcddcdhnjfeaaWalThy7
set_option linter.unusedVariables false
set_option linter.unusedSimpArgs false
namespace Go.Proofs.Ytplcddcdhnjfeaa
open Go.RowKit

theorem nil_app (x : ByteArray) : (⟨#[]⟩ : ByteArray) ++ x = x := by apply ByteArray.ext; simp
/-- The log that is opened at its first record. -/
theorem open_first {S : Dsk} {all : List ByteArray} {f : Nat} (hl : S.firm.length = 128) (hr : ∀ r ∈ all, 1 ≤ r.size ∧ r.size < 65536) (hf : f ≤ all.length) (hm : total all ≤ 6912) (a : Dal (Rg 0 128 1 (enc all) (total (all.take f))) S) :
    ∃ k, f ≤ k ∧ k ≤ all.length ∧ openRecs (Lg.read 0 128 54 S) = all.take k ∧ (opened (Lg.read 0 128 54 S)).data = enc (all.take k) ∧ (opened (Lg.read 0 128 54 S)).ok := by
  have z : (⟨#[]⟩ : ByteArray).size = 0 := rfl
  have ht := total_take all f
  obtain ⟨k, k1, k2, k3, k4⟩ := open_rg (first := 0) (n := 128) (start := 54) (pre := ⟨#[]⟩) (rs := all) (f := f) (by rw [z]) hr hf (by rw [nil_app, z, Nat.zero_add]; exact a) (by omega) (by omega) (by omega) (by rw [z]; omega)
  rw [nil_app] at k4
  refine ⟨k, k1, k2, k3, k4, opened_ok (by show 128 ≤ 128; omega) (by show 128 ≤ 4096; omega) (by show 0 ≤ 16384; omega) (by show 54 ≤ 54; omega) (by show 54 ≤ 1152921504606; omega) ?_⟩
  have := ld_size ((Lg.bare 0 128 54).get S) (54 / 54) 128 0 ⟨#[]⟩
  show (ldFrom ((Lg.bare 0 128 54).get S) (54 / 54) 128 0 ⟨#[]⟩).size ≤ 54 * 128
  omega
theorem wp_open {L : Lg} {S : Dsk} {all : List ByteArray} {f : Nat} (h : Wp L S all f) (m : Nat) (kb : Nat → Bool) (fu : Int) (C : Dsk) (hC : C = { S.crash m kb with fuel := fu }) :
    ∃ k, f ≤ k ∧ k ≤ all.length ∧ openRecs (Lg.read 0 128 54 C) = all.take k ∧ (opened (Lg.read 0 128 54 C)).ok ∧
      ((opened (Lg.read 0 128 54 C)).wipeFrom 128 0 C).1.firm.length = 128 ∧ ((opened (Lg.read 0 128 54 C)).wipeFrom 128 0 C).1.pend.length ≤ 128 ∧
      ∀ m2 kb2 D, D = ((opened (Lg.read 0 128 54 C)).wipeFrom 128 0 C).1.crash m2 kb2 → ∃ k2, f ≤ k2 ∧ k2 ≤ all.length ∧ openRecs (Lg.read 0 128 54 D) = all.take k2 ∧ (((opened (Lg.read 0 128 54 C)).wipeFrom 128 0 C).2 = 0 → k2 = k) ∧ ((opened (Lg.read 0 128 54 D)).wipeFrom 128 0 D).2 = 0 := by
  have hm := h.most
  have hcl : C.firm.length = 128 := by rw [hC]; show (S.crash m kb).firm.length = 128; rw [crash_len]; exact h.qt.len
  have aS : Dal (Rg 0 128 1 (enc all) (total (all.take f))) C := by
    rw [hC]
    exact burn_al ((h.rg.mono fun j v q => rg_less q h.tf).crash m kb) fu _
  obtain ⟨k, k1, k2, k3, k4, k5⟩ := open_first hcl h.rs h.fle hm aS
  have hq := wipe_qt (N := 128) (opened (Lg.read 0 128 54 C)) 128 0 C hcl (by show 0 + (0 + 128) ≤ 128; omega)
  have hpd : C.pend.length = 0 := by rw [hC]; rfl
  have hd : (opened (Lg.read 0 128 54 C)).data = (enc all).extract 0 (total (all.take k)) := by rw [k4, enc_take]
  have hF : total (all.take f) ≤ (opened (Lg.read 0 128 54 C)).data.size := by
    rw [k4, enc_size]
    have := total_take (all.take k) f
    rw [List.take_take, Nat.min_eq_left k1] at this
    exact this
  have eN : (opened (Lg.read 0 128 54 C)).n = 128 := rfl
  have e1 : (opened (Lg.read 0 128 54 C)).first = 0 := rfl
  have e2 : (opened (Lg.read 0 128 54 C)).start = 54 := rfl
  have e3 : (opened (Lg.read 0 128 54 C)).start / 54 = 1 := by rw [e2]
  obtain ⟨w1, w2⟩ := wipe_rg (F := total (all.take f)) (T := enc all) (S := C) k5 (by rw [e1, eN, e3]; exact aS) hd hF
  rw [eN, e1, e3] at w1 w2
  refine ⟨k, k1, k2, k3, k5, hq.1, by have := hq.2; omega, fun m2 kb2 D hD => ?_⟩
  have hdl : D.firm.length = 128 := by rw [hD, crash_len]; exact hq.1
  have hful : ((opened (Lg.read 0 128 54 D)).wipeFrom 128 0 D).2 = 0 := wipe_full (N := 128) _ 128 0 D hdl (by show 0 + (0 + 128) ≤ 128; omega) (by rw [hD]; rfl) (by rw [hD]; rfl)
  by_cases h0 : ((opened (Lg.read 0 128 54 C)).wipeFrom 128 0 C).2 = 0
  · have aD : Dal (Rg 0 128 1 (enc (all.take k)) (total ((all.take k).take k))) D := by
      have := (w2 h0).crash m2 kb2
      rw [← hD, k4, enc_size] at this
      rw [List.take_take, Nat.min_self]
      exact this
    have hlk : (all.take k).length = k := by rw [List.length_take]; omega
    obtain ⟨j, j1, j2, j3, j4, j5⟩ := open_first hdl (fun r hr => h.rs r (List.mem_of_mem_take hr)) (by omega) (Nat.le_trans (total_take all k) hm) aD
    rw [hlk] at j2
    have : j = k := by omega
    subst this
    rw [List.take_take, Nat.min_self] at j3
    exact ⟨j, k1, k2, j3, fun _ => rfl, hful⟩
  · have aD : Dal (Rg 0 128 1 (enc all) (total (all.take f))) D := by rw [hD]; exact w1.crash m2 kb2
    obtain ⟨j, j1, j2, j3, j4, j5⟩ := open_first hdl h.rs h.fle hm aD
    exact ⟨j, j1, j2, j3, fun x => absurd x h0, hful⟩
end Go.Proofs.Ytplcddcdhnjfeaa
