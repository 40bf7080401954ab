/- A log of records over its device, wherever it starts: through Append, Flush, a crash and Open, Cut: plain. -/
import Derived.Test.YtplcddcdhnjfeaaWalThy9
set_option linter.unusedVariables false
set_option linter.unusedSimpArgs false
namespace Go.Proofs.Ytplcddcdhnjfeaa
open Go.RowKit

theorem opened_fin (L : Lg) : (opened L).fin = L.start + total (openRecs L) := rfl
theorem opened_firm (L : Lg) : (opened L).firm = L.start + total (openRecs L) := rfl
theorem opened_plc (L : Lg) : (opened L).places = plcFrom L.start (openRecs L) := by
  have eo : opened L = { L with fin := L.start + total (openRecs L), firm := L.start + total (openRecs L), data := (padTo L.data (L.start % 54)).extract 0 (L.start + total (openRecs L) - flr L.start), places := plcFrom L.start (openRecs L) } := rfl
  rw [eo]
structure Wq (N first n start : Nat) (pre : ByteArray) (L : Lg) (S : Dsk) (all : List ByteArray) (f : Nat) : Prop where
  ok : L.ok
  nn : L.n = n
  nf : L.first = first
  ns : L.start = start
  pz : pre.size = start % 54
  data : L.data = pre ++ enc all
  qt : Qt N S
  hN : first + n ≤ N
  rg : Dal (Rg first n (start / 54) (pre ++ enc all) (L.firm - flr start)) S
  bd : Dal (Bd first n L.fin) S
  fle : f ≤ all.length
  tf : pre.size + total (all.take f) ≤ L.firm - flr start
  rs : ∀ r ∈ all, 1 ≤ r.size ∧ r.size < 65536
  bnd : ∃ g, g ≤ all.length ∧ L.firm = start + total (all.take g)
  plc : L.places = plcFrom start all
namespace Wq
variable {N first n start : Nat} {pre : ByteArray} {L : Lg} {S : Dsk} {all : List ByteArray} {f : Nat}
theorem flr_ (start : Nat) : flr start = start / 54 * 54 ∧ start = start / 54 * 54 + start % 54 := ⟨flr_mul _, by omega⟩
theorem fin (h : Wq N first n start pre L S all f) : L.fin = start + total all := by
  have a := h.ok.sz
  have b := h.ok.sf; have c := h.ok.fe
  have d := flr_ start
  rw [h.data, ByteArray.size_append, enc_size, h.pz, h.ns] at a
  rw [h.ns] at b
  omega
theorem most (h : Wq N first n start pre L S all f) : start % 54 + total all ≤ 54 * n := by
  have a := h.ok.rm
  have d := flr_ start
  rw [h.ns, h.nn, h.fin] at a
  omega
theorem tz (h : Wq N first n start pre L S all f) : (pre ++ enc all).size = start % 54 + total all := by rw [ByteArray.size_append, enc_size, h.pz]
theorem more (h : Wq N first n start pre L S all f) (r : ByteArray) (h1 : 1 ≤ r.size) (h2 : r.size < 65536) (hr : r.size + 2 ≤ L.room) (hb : L.fin ≤ 1152921504606000000) : Wq N first n start pre (L.more r) S (all ++ [r]) f := by
  have hf := h.fin
  have e : pre ++ enc (all ++ [r]) = (pre ++ enc all) ++ (Oct.str r.size 2 ++ r) := by rw [enc_app, enc_one, ByteArray.append_assoc]
  obtain ⟨g, g1, g2⟩ := h.bnd
  refine ⟨Lg.more_ok h.ok r (by omega) hr (by omega), h.nn, h.nf, h.ns, h.pz, ?_, h.qt, h.hN, ?_, h.bd.mono fun j v b => bd_more b (Nat.le_add_right _ _), ?_, ?_, ?_, ⟨g, ?_, ?_⟩, ?_⟩
  · show L.data ++ (Oct.str r.size 2 ++ r) = _
    rw [e, h.data]
  · rw [e]; exact more_rg h.rg _
  · rw [List.length_append]; exact Nat.le_trans h.fle (Nat.le_add_right _ _)
  · rw [List.take_append_of_le_length h.fle]; exact h.tf
  · intro x hx
    rcases List.mem_append.1 hx with hx | hx
    · exact h.rs x hx
    · rw [List.mem_singleton.1 hx]; exact ⟨h1, h2⟩
  · rw [List.length_append]; omega
  · rw [List.take_append_of_le_length g1]; exact g2
  · show L.places ++ [L.fin] = _
    rw [plc_snoc, h.plc, hf]
theorem flushed (h : Wq N first n start pre L S all f) (at_ : Int) (hok : (L.flush S at_).1.ok) :
    Wq N first n start pre (L.flush S at_).1 (L.flush S at_).2.1 all f ∧ ((L.flush S at_).2.2 = 0 → (∀ g, g < all.length → ((start + total (all.take g) : Nat) : Int) ≤ at_) → Wq N first n start pre (L.flush S at_).1 (L.flush S at_).2.1 all all.length ∧ (L.flush S at_).1.firm = L.fin) := by
  obtain ⟨q1, ⟨q2, q3, q4, q5, q6, q7⟩, q8⟩ := flush_qt (N := N) h.ok h.qt (by rw [h.nf, h.nn]; exact h.hN) at_
  have hf := h.fin
  have d := flr_ start
  have hs := h.ns
  have a0 : Dal (Rg L.first L.n (L.start / 54) L.data (L.firm - flr L.start)) S := by rw [h.nf, h.nn, hs, h.data]; exact h.rg
  have b0 : Dal (Bd L.first L.n L.fin) (L.flush S at_).2.1 := flush_bd h.ok (by rw [h.nf, h.nn]; exact h.bd) at_
  have b1 : Dal (Bd first n (L.flush S at_).1.fin) (L.flush S at_).2.1 := by rw [q6, ← h.nf, ← h.nn]; exact b0
  obtain ⟨g, g1, g2⟩ := h.bnd
  have hle : L.firm ≤ L.fin := h.ok.fe
  have sf : L.start ≤ L.firm := h.ok.sf
  by_cases h0 : (L.flush S at_).2.2 = 0
  · obtain ⟨c1, c2⟩ := flushed_rg h.ok a0 at_ h0
    rw [h.nf, h.nn, hs, h.data] at c1
    have key : (L.flush S at_).1.firm = L.firm ∨ (L.flush S at_).1.firm = L.fin := by
      by_cases c : at_ < L.firm
      · left
        unfold Lg.flush
        rw [if_pos (.inl c)]
      · exact .inr (c2 c)
    have nb : ∃ g, g ≤ all.length ∧ (L.flush S at_).1.firm = start + total (all.take g) := by
      rcases key with k | k
      · exact ⟨g, g1, by rw [k, g2]⟩
      · exact ⟨all.length, Nat.le_refl _, by rw [k, hf, List.take_length]⟩
    have tf := h.tf
    have w : Wq N first n start pre (L.flush S at_).1 (L.flush S at_).2.1 all f := ⟨hok, q4.trans h.nn, q3.trans h.nf, q2.trans h.ns, h.pz, q5.trans h.data, q1, h.hN, c1, b1, h.fle, by rcases key with k | k <;> rw [k] <;> omega, h.rs, nb, q7.trans h.plc⟩
    refine ⟨w, fun _ hat => ?_⟩
    have ef : (L.flush S at_).1.firm = L.fin := by
      by_cases c : at_ < L.firm
      · have hg : ¬ g < all.length := fun hg => by
          have := hat g hg
          omega
        have : g = all.length := by omega
        subst this
        rw [List.take_length] at g2
        rcases key with k | k
        · rw [k, g2, hf]
        · exact k
      · exact c2 c
    refine ⟨⟨w.ok, w.nn, w.nf, w.ns, w.pz, w.data, w.qt, w.hN, w.rg, w.bd, Nat.le_refl _, ?_, w.rs, w.bnd, w.plc⟩, ef⟩
    rw [List.take_length, ef, hf]
    have := h.pz
    omega
  · have e := q8 h0
    have hF : L.firm - flr L.start ≤ L.data.size := by have := h.ok.sz; omega
    have b := flush_rg h.ok a0 hF at_
    rw [h.nf, h.nn, hs, h.data] at b
    refine ⟨?_, fun x => absurd x h0⟩
    rw [e] at hok b1 ⊢
    exact ⟨hok, h.nn, h.nf, h.ns, h.pz, h.data, q1, h.hN, b, b1, h.fle, h.tf, h.rs, h.bnd, h.plc⟩
/-- A flush of all that there is. -/
theorem flush_all (h : Wq N first n start pre L S all f) (at_ : Int) (hok : (L.flush S at_).1.ok) (ha : (L.fin : Int) ≤ at_) (h0 : (L.flush S at_).2.2 = 0) : Wq N first n start pre (L.flush S at_).1 (L.flush S at_).2.1 all all.length ∧ (L.flush S at_).1.firm = L.fin :=
  (h.flushed at_ hok).2 h0 fun g hg => by
    have := h.fin; have := total_take all g
    omega
/-- Behind a crash. -/
theorem crashed (h : Wq N first n start pre L S all f) (h1 : 54 ≤ start) (h2 : start ≤ 1099511627776) (m : Nat) (kb : Nat → Bool) (fu : Int) (C : Dsk) (hC : C = { S.crash m kb with fuel := fu }) :
    ∃ k, f ≤ k ∧ k ≤ all.length ∧ openRecs (Lg.read first n start C) = all.take k ∧ (opened (Lg.read first n start C)).ok ∧ C.firm.length = N ∧ C.pend = [] ∧ C.down = false ∧
      ((opened (Lg.read first n start C)).wipeFrom n 0 C).1.firm.length = N ∧ ((opened (Lg.read first n start C)).wipeFrom n 0 C).1.pend.length ≤ n ∧
      (fu = -1 → ((opened (Lg.read first n start C)).wipeFrom n 0 C).2 = 0 ∧ Run ((opened (Lg.read first n start C)).wipeFrom n 0 C).1 ∧ Wq N first n start pre (opened (Lg.read first n start C)) ((opened (Lg.read first n start C)).wipeFrom n 0 C).1 (all.take k) k) := by
  have hm := h.most
  have n1 : 128 ≤ n := by rw [← h.nn]; exact h.ok.n1
  have n2 : n ≤ 4096 := by rw [← h.nn]; exact h.ok.n2
  have f1 : first ≤ 16384 := by rw [← h.nf]; exact h.ok.f1
  have ht := total_take all f
  have hcl : C.firm.length = N := by rw [hC]; show (S.crash m kb).firm.length = N; rw [crash_len]; exact h.qt.len
  have hN := h.hN
  have aS : Dal (Rg first n (start / 54) (pre ++ enc all) (pre.size + total (all.take f))) C := by
    rw [hC]
    exact burn_al ((h.rg.mono fun j v q => rg_less q h.tf).crash m kb) fu _
  obtain ⟨k, k1, k2, k3, k4⟩ := open_rg (first := first) (n := n) (start := start) (pre := pre) (rs := all) (f := f) h.pz h.rs h.fle aS (by omega) (by omega) (by omega) (by have := h.pz; omega)
  have k5 : (opened (Lg.read first n start C)).ok := opened_ok (by show 128 ≤ n; omega) (by show n ≤ 4096; omega) (by show first ≤ 16384; omega) (by show 54 ≤ start; omega) (by show start ≤ 1152921504606; omega) (by
    have := ld_size ((Lg.bare first n start).get C) (start / 54) n 0 ⟨#[]⟩
    show (ldFrom ((Lg.bare first n start).get C) (start / 54) n 0 ⟨#[]⟩).size ≤ 54 * n
    have z : (⟨#[]⟩ : ByteArray).size = 0 := rfl
    omega)
  have hq := wipe_qt (N := N) (opened (Lg.read first n start C)) n 0 C hcl (by show first + (0 + n) ≤ N; omega)
  have hpd : C.pend = [] := by rw [hC]; rfl
  refine ⟨k, k1, k2, k3, k5, hcl, hpd, by rw [hC]; rfl, hq.1, by have := hq.2; rw [hpd] at this; simpa using this, fun hfu => ?_⟩
  have hrun : Run C := by rw [hC]; exact ⟨rfl, hfu⟩
  obtain ⟨w1, w2, w3⟩ := wipe_run (N := N) (opened (Lg.read first n start C)) n 0 C hcl (by show first + (0 + n) ≤ N; omega) hrun
  refine ⟨w1, w2, ?_⟩
  have htk := total_take all k
  have lk : (all.take k).length = k := by rw [List.length_take]; omega
  have eN : (opened (Lg.read first n start C)).n = n := rfl
  have e1 : (opened (Lg.read first n start C)).first = first := rfl
  have e2 : (opened (Lg.read first n start C)).start = start := rfl
  have e6 : (opened (Lg.read first n start C)).fin = start + total (all.take k) := by rw [opened_fin, k3]; rfl
  have e7 : (opened (Lg.read first n start C)).firm = start + total (all.take k) := by rw [opened_firm, k3]; rfl
  have e8 : (opened (Lg.read first n start C)).places = plcFrom start (all.take k) := by rw [opened_plc, k3]; rfl
  have hd : (opened (Lg.read first n start C)).data = (pre ++ enc all).extract 0 (pre.size + total (all.take k)) := by
    rw [k4, ext_long _ _ _ (by omega), Nat.add_sub_cancel_left, enc_take]
  have hF : pre.size + total (all.take f) ≤ (opened (Lg.read first n start C)).data.size := by
    rw [k4, ByteArray.size_append, enc_size]
    have := total_take (all.take k) f
    rw [List.take_take, Nat.min_eq_left k1] at this
    omega
  obtain ⟨r1, r2⟩ := wipe_rg (F := pre.size + total (all.take f)) (T := pre ++ enc all) (S := C) k5 (by rw [e1, eN, e2]; exact aS) hd hF
  have r3 := r2 (by rw [eN]; exact w1)
  rw [e1, eN, e2, k4] at r3
  have bC : Dal (Bd first n L.fin) C := by rw [hC]; exact burn_al (h.bd.crash m kb) fu _
  have hfi : (opened (Lg.read first n start C)).fin ≤ L.fin := by rw [e6, h.fin]; omega
  obtain ⟨x1, x2⟩ := wipe_bd (S := C) k5 (Q := Bd first n L.fin) bC (fun j v b => bd_more (by rw [e1, eN] at b; exact b) hfi)
  have x3 := x2 (by rw [eN]; exact w1)
  rw [eN, e1] at x3
  have hst := h.pz
  have d := flr_ start
  have es : (pre ++ enc (all.take k)).size = pre.size + total (all.take k) := by rw [ByteArray.size_append, enc_size]
  exact { ok := k5, nn := eN, nf := e1, ns := e2, pz := h.pz, data := k4, qt := ⟨hq.1, .inr w3, by rw [w3]; exact Nat.zero_le _⟩, hN := h.hN, rg := (by rw [e7, show start + total (all.take k) - flr start = pre.size + total (all.take k) by omega, ← es]; exact r3), bd := x3, fle := (by omega), tf := (by rw [List.take_take, Nat.min_self, e7]; omega), rs := (fun r hr => h.rs r (List.mem_of_mem_take hr)), bnd := ⟨k, by omega, by rw [List.take_take, Nat.min_self]; exact e7⟩, plc := e8 }
theorem less {g : Nat} (h : Wq N first n start pre L S all f) (hg : g ≤ f) : Wq N first n start pre L S all g :=
  ⟨h.ok, h.nn, h.nf, h.ns, h.pz, h.data, h.qt, h.hN, h.rg, h.bd, Nat.le_trans hg h.fle, by
    have := h.tf
    have := total_take (all.take f) g
    rw [List.take_take, Nat.min_eq_left hg] at this
    omega, h.rs, h.bnd, h.plc⟩
/-- Fuel laid anew. -/
theorem fuel (h : Wq N first n start pre L S all f) (fu : Int) : Wq N first n start pre L { S with fuel := fu } all f :=
  ⟨h.ok, h.nn, h.nf, h.ns, h.pz, h.data, ⟨h.qt.len, h.qt.up, h.qt.few⟩, h.hN, burn_al h.rg fu S.down, burn_al h.bd fu S.down, h.fle, h.tf, h.rs, h.bnd, h.plc⟩
end Wq
/-- The empty log. -/
theorem wq_new (N first n : Nat) (fu : Int) (h1 : 128 ≤ n) (h2 : n ≤ 4096) (h3 : first ≤ 16384) (hN : first + n ≤ N) : Wq N first n 54 ⟨#[]⟩ (Lg.new first n) { Dsk.start (blanks N) with fuel := fu } [] 0 where
  ok := Lg.new_ok first n h1 h2 h3
  nn := rfl
  nf := rfl
  ns := rfl
  pz := rfl
  data := rfl
  qt := ⟨by simp [Dsk.start, blanks], .inr rfl, Nat.zero_le _⟩
  hN := hN
  rg := burn_al (start_rg N first n 1 _) fu false
  bd := burn_al (start_bd N first n 54) fu false
  fle := Nat.le_refl _
  tf := Nat.zero_le _
  rs := fun r hr => by cases hr
  bnd := ⟨0, Nat.le_refl _, rfl⟩
  plc := rfl
end Go.Proofs.Ytplcddcdhnjfeaa
