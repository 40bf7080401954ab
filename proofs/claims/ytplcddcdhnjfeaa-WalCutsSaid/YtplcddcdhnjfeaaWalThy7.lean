/- What WalPrefix's loop keeps: plain. -/
import Derived.Test.YtplcddcdhnjfeaaWalThy
set_option linter.unusedVariables false
set_option linter.unusedSimpArgs false
namespace Go.Proofs.Ytplcddcdhnjfeaa
open Go.RowKit

/-- A log of these records over its device, so many of which were told firm. -/
structure Wp (L : Lg) (S : Dsk) (all : List ByteArray) (f : Nat) : Prop where
  ok : L.ok
  n : L.n = 128
  first : L.first = 0
  start : L.start = 54
  data : L.data = enc all
  qt : Qt 128 S
  rg : Dal (Rg 0 128 1 (enc all) (L.firm - 54)) S
  fle : f ≤ all.length
  tf : total (all.take f) ≤ L.firm - 54
  rs : ∀ r ∈ all, 1 ≤ r.size ∧ r.size < 65536
  bnd : ∃ g, g ≤ all.length ∧ L.firm = 54 + total (all.take g)
  plc : L.places = plcFrom 54 all
namespace Wp
variable {L : Lg} {S : Dsk} {all : List ByteArray} {f : Nat}
theorem flr54 (h : Wp L S all f) : flr L.start = 54 := by rw [h.start]; unfold flr; omega
theorem fin (h : Wp L S all f) : L.fin = 54 + total all := by
  have a := h.ok.sz
  have b := h.ok.sf; have c := h.ok.fe
  rw [h.data, enc_size, h.flr54] at a
  rw [h.start] at b
  omega
theorem most (h : Wp L S all f) : total all ≤ 6912 := by
  have a := h.ok.rm
  rw [h.flr54, h.n, h.fin] at a
  omega
theorem more (h : Wp L S all f) (r : ByteArray) (h1 : 1 ≤ r.size) (h2 : r.size < 65536) (hr : r.size + 2 ≤ L.room) : Wp (L.more r) S (all ++ [r]) f := by
  have hm := h.most
  have hf := h.fin
  have e : enc (all ++ [r]) = enc all ++ (Oct.str r.size 2 ++ r) := by rw [enc_app, enc_one]
  obtain ⟨g, g1, g2⟩ := h.bnd
  refine ⟨Lg.more_ok h.ok r (by omega) hr (by omega), h.n, h.first, h.start, ?_, h.qt, ?_, ?_, ?_, ?_, ⟨g, ?_, ?_⟩, ?_⟩
  · show L.data ++ (Oct.str r.size 2 ++ r) = _
    rw [e, h.data]
  · rw [e]; exact more_rg h.rg _
  · rw [List.length_append]; exact Nat.le_trans h.fle (Nat.le_add_right _ _)
  · rw [List.take_append_of_le_length h.fle]; exact h.tf
  · intro x hx
    rcases List.mem_append.1 hx with hx | hx
    · exact h.rs x hx
    · rw [List.mem_singleton.1 hx]; exact ⟨h1, h2⟩
  · rw [List.length_append]; omega
  · rw [List.take_append_of_le_length g1]; exact g2
  · show L.places ++ [L.fin] = _
    rw [plc_snoc, h.plc, hf]
theorem flushed (h : Wp L S all f) (at_ : Int) (hok : (L.flush S at_).1.ok) :
    Wp (L.flush S at_).1 (L.flush S at_).2.1 all f ∧ ((L.flush S at_).2.2 = 0 → (∀ g, g < all.length → ((54 + total (all.take g) : Nat) : Int) ≤ at_) → Wp (L.flush S at_).1 (L.flush S at_).2.1 all all.length) := by
  obtain ⟨q1, ⟨q2, q3, q4, q5, q6, q7⟩, q8⟩ := flush_qt (N := 128) h.ok h.qt (by rw [h.first, h.n]; omega) at_
  have hf := h.fin
  have hfl := h.flr54
  have hd : L.start / 54 = 1 := by rw [h.start]
  have a0 : Dal (Rg L.first L.n (L.start / 54) L.data (L.firm - flr L.start)) S := by rw [h.first, h.n, hd, h.data, hfl]; exact h.rg
  obtain ⟨g, g1, g2⟩ := h.bnd
  by_cases h0 : (L.flush S at_).2.2 = 0
  · obtain ⟨b1, b2⟩ := flushed_rg h.ok a0 at_ h0
    rw [h.first, h.n, hd, h.data, hfl] at b1
    have hle : L.firm ≤ L.fin := h.ok.fe
    have key : (L.flush S at_).1.firm = L.firm ∨ (L.flush S at_).1.firm = L.fin := by
      by_cases c : at_ < L.firm
      · left
        unfold Lg.flush
        rw [if_pos (.inl c)]
      · exact .inr (b2 c)
    have nb : ∃ g, g ≤ all.length ∧ (L.flush S at_).1.firm = 54 + total (all.take g) := by
      rcases key with k | k
      · exact ⟨g, g1, by rw [k, g2]⟩
      · exact ⟨all.length, Nat.le_refl _, by rw [k, hf, List.take_length]⟩
    have tf := h.tf
    have w : Wp (L.flush S at_).1 (L.flush S at_).2.1 all f := ⟨hok, q4.trans h.n, q3.trans h.first, q2.trans h.start, q5.trans h.data, q1, b1, h.fle, by rcases key with k | k <;> rw [k] <;> omega, h.rs, nb, q7.trans h.plc⟩
    refine ⟨w, fun _ hat => ⟨w.ok, w.n, w.first, w.start, w.data, w.qt, w.rg, Nat.le_refl _, ?_, w.rs, w.bnd, w.plc⟩⟩
    rw [List.take_length]
    have : (L.flush S at_).1.firm = L.fin := by
      by_cases c : at_ < L.firm
      · have hg : ¬ g < all.length := fun hg => by
          have := hat g hg
          omega
        have : g = all.length := by omega
        subst this
        rw [List.take_length] at g2
        rcases key with k | k
        · rw [k, g2, hf]
        · exact k
      · exact b2 c
    omega
  · have e := q8 h0
    have hF : L.firm - flr L.start ≤ L.data.size := by have := h.ok.sz; have := h.ok.fe; omega
    have b := flush_rg h.ok a0 hF at_
    rw [h.first, h.n, hd, h.data, hfl] at b
    refine ⟨?_, fun x => absurd x h0⟩
    rw [e] at hok ⊢
    exact ⟨hok, h.n, h.first, h.start, h.data, q1, b, h.fle, h.tf, h.rs, h.bnd, h.plc⟩
end Wp
/-- The empty log. -/
theorem wp_new (fu : Int) : Wp (Lg.new 0 128) { Dsk.start (blanks 128) with fuel := fu } [] 0 where
  ok := Lg.new_ok 0 128 (by omega) (by omega) (by omega)
  n := rfl
  first := rfl
  start := rfl
  data := rfl
  qt := ⟨by simp [Dsk.start, blanks], .inr rfl, Nat.zero_le _⟩
  rg := burn_al (start_rg 128 0 128 1 (enc [])) fu false
  fle := Nat.le_refl _
  tf := Nat.zero_le _
  rs := fun r hr => by cases hr
  bnd := ⟨0, Nat.le_refl _, rfl⟩
  plc := rfl
end Go.Proofs.Ytplcddcdhnjfeaa
