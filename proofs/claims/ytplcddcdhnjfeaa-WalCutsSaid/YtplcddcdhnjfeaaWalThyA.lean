/- A log over its device, wherever it starts; what its ring's sectors are numbered; a cut; a device with fuel: plain. A log of records over its device, wherever it starts: through Append, Flush, a crash and Open, Cut: plain. A cut of a log: plain. A cut of a log of records over its device: plain. -/
import Derived.Test.YtplcddcdhnjfeaaWalThy8
import Derived.Test.YtplcddcdhnjfeaaWalOpen
set_option linter.unusedVariables false
set_option linter.unusedSimpArgs false
namespace Go.Proofs.Ytplcddcdhnjfeaa
open Go.RowKit

/-- Up, and fuel without end. -/
def Run (S : Dsk) : Prop := S.down = false ∧ S.fuel = -1
theorem burnt_run {S : Dsk} (h : S.fuel = -1) : (if 0 < S.fuel then S.fuel - 1 else S.fuel) = -1 := by rw [if_neg (by omega)]; exact h
theorem write_run {S : Dsk} (h : Run S) (i : Nat) (d : ByteArray) (hi : i < S.firm.length) (hd : d.size = 64) : (S.write (i : Int) d).2 = 0 ∧ Run (S.write (i : Int) d).1 := by
  have e : S.write (i : Int) d = (S.wrote i d, 0) := by
    unfold Dsk.write
    rw [if_neg (by rw [h.1]; simp), if_pos ⟨by omega, by omega, hd⟩, if_neg (by have := h.2; omega), Int.toNat_natCast]
  rw [e]
  exact ⟨rfl, h.1, burnt_run h.2⟩
theorem barrier_run {S : Dsk} (h : Run S) : S.barrier.2 = 0 ∧ Run S.barrier.1 ∧ S.barrier.1.pend = [] := by
  unfold Dsk.barrier
  rw [if_neg (by rw [h.1]; simp), if_neg (by have := h.2; omega)]
  exact ⟨rfl, ⟨h.1, burnt_run h.2⟩, rfl⟩
theorem wr_run (L : Lg) (hn : 1 ≤ L.n) : ∀ (m k : Nat) (S : Dsk), L.first + L.n ≤ S.firm.length → Run S → (L.wr m k S).2 = 0 ∧ Run (L.wr m k S).1
  | 0, k, S, _, h => ⟨rfl, h⟩
  | m + 1, k, S, hl, h => by
    have hk : k % L.n < L.n := Nat.mod_lt _ hn
    obtain ⟨a, b⟩ := write_run h (L.first + k % L.n) (L.sec k) (by omega) (L.sec_size k)
    simp only [Lg.wr]
    rw [if_pos a]
    exact wr_run L hn m (k + 1) _ (by rw [write_len]; exact hl) b
theorem flush_run {L : Lg} {S : Dsk} (h : L.ok) (hl : L.first + L.n ≤ S.firm.length) (r : Run S) (at_ : Int) : (L.flush S at_).2.2 = 0 ∧ Run (L.flush S at_).2.1 := by
  have n1 := h.n1
  obtain ⟨w1, w2⟩ := wr_run L (by omega) L.rounds (L.firm / 54) S hl r
  obtain ⟨b1, b2, _⟩ := barrier_run w2
  unfold Lg.flush
  split
  · exact ⟨rfl, r⟩
  rw [if_neg (not_not_intro w1), if_neg (not_not_intro b1)]
  exact ⟨b1, b2⟩
theorem wipe_run {N : Nat} (L : Lg) : ∀ (m i : Nat) (S : Dsk), S.firm.length = N → L.first + (i + m) ≤ N → Run S → (L.wipeFrom m i S).2 = 0 ∧ Run (L.wipeFrom m i S).1 ∧ (L.wipeFrom m i S).1.pend = []
  | 0, i, S, h, hi, r => barrier_run r
  | m + 1, i, S, h, hi, r => by
    obtain ⟨a, b⟩ := write_run r (L.first + i) (L.want i) (by omega) (want_size L i)
    simp only [Lg.wipeFrom]
    split
    · exact wipe_run L m (i + 1) S h (by omega) r
    exact wipe_run (N := N) L m (i + 1) _ (by rw [write_len]; exact h) (by omega) b
theorem crash_run (S : Dsk) (m : Nat) (kb : Nat → Bool) : Run (S.crash m kb) := ⟨rfl, rfl⟩

/-- The sectors of the ring bear no number of a sector behind place M. -/
def Bd (first n M : Nat) (j : Nat) (v : ByteArray) : Prop := first ≤ j → j < first + n → 54 * secId v ≤ M + 53
theorem bd_more {first n M M' j : Nat} {v : ByteArray} (h : Bd first n M j v) (hm : M ≤ M') : Bd first n M' j v := fun a b => Nat.le_trans (h a b) (by omega)
theorem id_secOf (k : Nat) (p : ByteArray) (hk : k + 1 < 18446744073709551616) : secId (secOf k p) = k + 1 := by
  unfold secId secOf
  rw [ByteArray.append_assoc, ByteArray.append_assoc]
  have a : Oct.rnum (some (Oct.str (k + 1) 8 ++ (Oct.str p.size 2 ++ (p ++ Fr.zs (54 - p.size))))) 8 = _ := rnum_app (Oct.str (k + 1) 8) _ 8 (Oct.str_size _ _) (by omega) (by omega)
  rw [a]
  show Oct.sval (Oct.str (k + 1) 8) = _
  rw [Oct.sval_str _ _ (by omega)]
theorem bd_zs (first n M j : Nat) : Bd first n M j (Fr.zs 64) := fun _ _ => by rw [blank_id]; omega
theorem bd_sec {L : Lg} (h : L.ok) (k : Nat) (hk : k * 54 < L.fin) (j : Nat) : Bd L.first L.n L.fin j (L.sec k) := fun _ _ => by
  have := h.big
  rw [sec_secOf, id_secOf _ _ (by omega)]
  omega
theorem flush_bd {L : Lg} {S : Dsk} (h : L.ok) (a : Dal (Bd L.first L.n L.fin) S) (at_ : Int) : Dal (Bd L.first L.n L.fin) (L.flush S at_).2.1 := by
  have w := L.wr_al L.rounds (L.firm / 54) S a fun k h1 h2 => bd_sec h k (by
    unfold Lg.rounds at h2
    omega) _
  unfold Lg.flush
  split
  · exact a
  split
  · exact w
  split
  · exact w.barrier
  · exact w.barrier
theorem want_bd {L : Lg} (h : L.ok) (i j : Nat) : Bd L.first L.n L.fin j (L.want i) := by
  unfold Lg.want
  split
  · rename_i c
    exact bd_sec h _ c j
  · exact bd_zs _ _ _ _
theorem wipe_bd {L : Lg} {S : Dsk} (h : L.ok) {Q : Nat → ByteArray → Prop} (q : Dal Q S) (hq : ∀ j v, Bd L.first L.n L.fin j v → Q j v) : Dal Q (L.wipeFrom L.n 0 S).1 ∧ ((L.wipeFrom L.n 0 S).2 = 0 → Dal (Bd L.first L.n L.fin) (L.wipeFrom L.n 0 S).1) := by
  have w : ∀ j, 0 ≤ j → j < 0 + L.n → Bd L.first L.n L.fin (L.first + j) (L.want j) := fun j _ hj => want_bd h j _
  have w' : ∀ j, 0 ≤ j → j < 0 + L.n → Q (L.first + j) (L.want j) := fun j h0 hj => hq _ _ (w j h0 hj)
  refine ⟨L.wipe_al L.n 0 S q w', fun h0 => L.wipe_now L.n 0 S q w' w (fun j hj => ?_) h0⟩
  by_cases hx : L.first ≤ j ∧ j < L.first + L.n
  · exact .inr ⟨by omega, by omega⟩
  · exact .inl fun a b => absurd ⟨a, b⟩ hx
theorem start_bd (N first n M : Nat) : Dal (Bd first n M) (.start (blanks N)) := Dal.start fun j hj => by
  have e : (blanks N).getD j ⟨#[]⟩ = Fr.zs 64 := by
    have hj' : j < N := by simpa [blanks] using hj
    simp [blanks, List.getD_eq_getElem?_getD, List.getElem?_replicate, hj']
  rw [e]; exact bd_zs _ _ _ _

/-- The stream from a later sector on. -/
theorem rg_cut {first n K F d j : Nat} {T : ByteArray} {v : ByteArray} (h : Rg first n K T F j v) (b : Bd first n (54 * K + T.size) j v) (hF : F ≤ T.size) (hn : T.size ≤ 54 * n) (hd : 54 * d ≤ T.size) :
    Rg first n (K + d) (T.extract (54 * d) T.size) (F - 54 * d) j v := fun i hi hj => by
  have hz : (T.extract (54 * d) T.size).size = T.size - 54 * d := by rw [ByteArray.size_extract]; omega
  have hm : (K + d + i) % n < n := Nat.mod_lt _ (by omega)
  by_cases hlt : d + i < n
  · rcases h (d + i) hlt (by rw [hj, Nat.add_assoc]) with ⟨a, c⟩ | ⟨c, c1, c2, c3, c4⟩
    · exact .inl ⟨by omega, by rw [Nat.add_assoc K d i]; exact c⟩
    · refine .inr ⟨c, c1, by omega, by rw [hz]; omega, ?_⟩
      rw [c4, ByteArray.extract_extract, Nat.add_assoc K d i]
      congr 2 <;> omega
  · refine .inl ⟨by omega, fun e => ?_⟩
    have := b (by omega) (by omega)
    omega
end Go.Proofs.Ytplcddcdhnjfeaa
namespace Go.Proofs.Ytplcddcdhnjfeaa
open Go.RowKit

theorem opened_fin (L : Lg) : (opened L).fin = L.start + total (openRecs L) := rfl
theorem opened_firm (L : Lg) : (opened L).firm = L.start + total (openRecs L) := rfl
theorem opened_plc (L : Lg) : (opened L).places = plcFrom L.start (openRecs L) := by
  have eo : opened L = { L with fin := L.start + total (openRecs L), firm := L.start + total (openRecs L), data := (padTo L.data (L.start % 54)).extract 0 (L.start + total (openRecs L) - flr L.start), places := plcFrom L.start (openRecs L) } := rfl
  rw [eo]
structure Wq (N first n start : Nat) (pre : ByteArray) (L : Lg) (S : Dsk) (all : List ByteArray) (f : Nat) : Prop where
  ok : L.ok
  nn : L.n = n
  nf : L.first = first
  ns : L.start = start
  pz : pre.size = start % 54
  data : L.data = pre ++ enc all
  qt : Qt N S
  hN : first + n ≤ N
  rg : Dal (Rg first n (start / 54) (pre ++ enc all) (L.firm - flr start)) S
  bd : Dal (Bd first n L.fin) S
  fle : f ≤ all.length
  tf : pre.size + total (all.take f) ≤ L.firm - flr start
  rs : ∀ r ∈ all, 1 ≤ r.size ∧ r.size < 65536
  bnd : ∃ g, g ≤ all.length ∧ L.firm = start + total (all.take g)
  plc : L.places = plcFrom start all
namespace Wq
variable {N first n start : Nat} {pre : ByteArray} {L : Lg} {S : Dsk} {all : List ByteArray} {f : Nat}
theorem flr_ (start : Nat) : flr start = start / 54 * 54 ∧ start = start / 54 * 54 + start % 54 := ⟨flr_mul _, by omega⟩
theorem fin (h : Wq N first n start pre L S all f) : L.fin = start + total all := by
  have a := h.ok.sz
  have b := h.ok.sf; have c := h.ok.fe
  have d := flr_ start
  rw [h.data, ByteArray.size_append, enc_size, h.pz, h.ns] at a
  rw [h.ns] at b
  omega
theorem most (h : Wq N first n start pre L S all f) : start % 54 + total all ≤ 54 * n := by
  have a := h.ok.rm
  have d := flr_ start
  rw [h.ns, h.nn, h.fin] at a
  omega
theorem tz (h : Wq N first n start pre L S all f) : (pre ++ enc all).size = start % 54 + total all := by rw [ByteArray.size_append, enc_size, h.pz]
theorem more (h : Wq N first n start pre L S all f) (r : ByteArray) (h1 : 1 ≤ r.size) (h2 : r.size < 65536) (hr : r.size + 2 ≤ L.room) (hb : L.fin ≤ 1152921504606000000) : Wq N first n start pre (L.more r) S (all ++ [r]) f := by
  have hf := h.fin
  have e : pre ++ enc (all ++ [r]) = (pre ++ enc all) ++ (Oct.str r.size 2 ++ r) := by rw [enc_app, enc_one, ByteArray.append_assoc]
  obtain ⟨g, g1, g2⟩ := h.bnd
  refine ⟨Lg.more_ok h.ok r (by omega) hr (by omega), h.nn, h.nf, h.ns, h.pz, ?_, h.qt, h.hN, ?_, h.bd.mono fun j v b => bd_more b (Nat.le_add_right _ _), ?_, ?_, ?_, ⟨g, ?_, ?_⟩, ?_⟩
  · show L.data ++ (Oct.str r.size 2 ++ r) = _
    rw [e, h.data]
  · rw [e]; exact more_rg h.rg _
  · rw [List.length_append]; exact Nat.le_trans h.fle (Nat.le_add_right _ _)
  · rw [List.take_append_of_le_length h.fle]; exact h.tf
  · intro x hx
    rcases List.mem_append.1 hx with hx | hx
    · exact h.rs x hx
    · rw [List.mem_singleton.1 hx]; exact ⟨h1, h2⟩
  · rw [List.length_append]; omega
  · rw [List.take_append_of_le_length g1]; exact g2
  · show L.places ++ [L.fin] = _
    rw [plc_snoc, h.plc, hf]
theorem flushed (h : Wq N first n start pre L S all f) (at_ : Int) (hok : (L.flush S at_).1.ok) :
    Wq N first n start pre (L.flush S at_).1 (L.flush S at_).2.1 all f ∧ ((L.flush S at_).2.2 = 0 → (∀ g, g < all.length → ((start + total (all.take g) : Nat) : Int) ≤ at_) → Wq N first n start pre (L.flush S at_).1 (L.flush S at_).2.1 all all.length ∧ (L.flush S at_).1.firm = L.fin) := by
  obtain ⟨q1, ⟨q2, q3, q4, q5, q6, q7⟩, q8⟩ := flush_qt (N := N) h.ok h.qt (by rw [h.nf, h.nn]; exact h.hN) at_
  have hf := h.fin
  have d := flr_ start
  have hs := h.ns
  have a0 : Dal (Rg L.first L.n (L.start / 54) L.data (L.firm - flr L.start)) S := by rw [h.nf, h.nn, hs, h.data]; exact h.rg
  have b0 : Dal (Bd L.first L.n L.fin) (L.flush S at_).2.1 := flush_bd h.ok (by rw [h.nf, h.nn]; exact h.bd) at_
  have b1 : Dal (Bd first n (L.flush S at_).1.fin) (L.flush S at_).2.1 := by rw [q6, ← h.nf, ← h.nn]; exact b0
  obtain ⟨g, g1, g2⟩ := h.bnd
  have hle : L.firm ≤ L.fin := h.ok.fe
  have sf : L.start ≤ L.firm := h.ok.sf
  by_cases h0 : (L.flush S at_).2.2 = 0
  · obtain ⟨c1, c2⟩ := flushed_rg h.ok a0 at_ h0
    rw [h.nf, h.nn, hs, h.data] at c1
    have key : (L.flush S at_).1.firm = L.firm ∨ (L.flush S at_).1.firm = L.fin := by
      by_cases c : at_ < L.firm
      · left
        unfold Lg.flush
        rw [if_pos (.inl c)]
      · exact .inr (c2 c)
    have nb : ∃ g, g ≤ all.length ∧ (L.flush S at_).1.firm = start + total (all.take g) := by
      rcases key with k | k
      · exact ⟨g, g1, by rw [k, g2]⟩
      · exact ⟨all.length, Nat.le_refl _, by rw [k, hf, List.take_length]⟩
    have tf := h.tf
    have w : Wq N first n start pre (L.flush S at_).1 (L.flush S at_).2.1 all f := ⟨hok, q4.trans h.nn, q3.trans h.nf, q2.trans h.ns, h.pz, q5.trans h.data, q1, h.hN, c1, b1, h.fle, by rcases key with k | k <;> rw [k] <;> omega, h.rs, nb, q7.trans h.plc⟩
    refine ⟨w, fun _ hat => ?_⟩
    have ef : (L.flush S at_).1.firm = L.fin := by
      by_cases c : at_ < L.firm
      · have hg : ¬ g < all.length := fun hg => by
          have := hat g hg
          omega
        have : g = all.length := by omega
        subst this
        rw [List.take_length] at g2
        rcases key with k | k
        · rw [k, g2, hf]
        · exact k
      · exact c2 c
    refine ⟨⟨w.ok, w.nn, w.nf, w.ns, w.pz, w.data, w.qt, w.hN, w.rg, w.bd, Nat.le_refl _, ?_, w.rs, w.bnd, w.plc⟩, ef⟩
    rw [List.take_length, ef, hf]
    have := h.pz
    omega
  · have e := q8 h0
    have hF : L.firm - flr L.start ≤ L.data.size := by have := h.ok.sz; omega
    have b := flush_rg h.ok a0 hF at_
    rw [h.nf, h.nn, hs, h.data] at b
    refine ⟨?_, fun x => absurd x h0⟩
    rw [e] at hok b1 ⊢
    exact ⟨hok, h.nn, h.nf, h.ns, h.pz, h.data, q1, h.hN, b, b1, h.fle, h.tf, h.rs, h.bnd, h.plc⟩
/-- A flush of all that there is. -/
theorem flush_all (h : Wq N first n start pre L S all f) (at_ : Int) (hok : (L.flush S at_).1.ok) (ha : (L.fin : Int) ≤ at_) (h0 : (L.flush S at_).2.2 = 0) : Wq N first n start pre (L.flush S at_).1 (L.flush S at_).2.1 all all.length ∧ (L.flush S at_).1.firm = L.fin :=
  (h.flushed at_ hok).2 h0 fun g hg => by
    have := h.fin; have := total_take all g
    omega
/-- Behind a crash. -/
theorem crashed (h : Wq N first n start pre L S all f) (h1 : 54 ≤ start) (h2 : start ≤ 1099511627776) (m : Nat) (kb : Nat → Bool) (fu : Int) (C : Dsk) (hC : C = { S.crash m kb with fuel := fu }) :
    ∃ k, f ≤ k ∧ k ≤ all.length ∧ openRecs (Lg.read first n start C) = all.take k ∧ (opened (Lg.read first n start C)).ok ∧ C.firm.length = N ∧ C.pend = [] ∧ C.down = false ∧
      ((opened (Lg.read first n start C)).wipeFrom n 0 C).1.firm.length = N ∧ ((opened (Lg.read first n start C)).wipeFrom n 0 C).1.pend.length ≤ n ∧
      (fu = -1 → ((opened (Lg.read first n start C)).wipeFrom n 0 C).2 = 0 ∧ Run ((opened (Lg.read first n start C)).wipeFrom n 0 C).1 ∧ Wq N first n start pre (opened (Lg.read first n start C)) ((opened (Lg.read first n start C)).wipeFrom n 0 C).1 (all.take k) k) := by
  have hm := h.most
  have n1 : 128 ≤ n := by rw [← h.nn]; exact h.ok.n1
  have n2 : n ≤ 4096 := by rw [← h.nn]; exact h.ok.n2
  have f1 : first ≤ 16384 := by rw [← h.nf]; exact h.ok.f1
  have ht := total_take all f
  have hcl : C.firm.length = N := by rw [hC]; show (S.crash m kb).firm.length = N; rw [crash_len]; exact h.qt.len
  have hN := h.hN
  have aS : Dal (Rg first n (start / 54) (pre ++ enc all) (pre.size + total (all.take f))) C := by
    rw [hC]
    exact burn_al ((h.rg.mono fun j v q => rg_less q h.tf).crash m kb) fu _
  obtain ⟨k, k1, k2, k3, k4⟩ := open_rg (first := first) (n := n) (start := start) (pre := pre) (rs := all) (f := f) h.pz h.rs h.fle aS (by omega) (by omega) (by omega) (by have := h.pz; omega)
  have k5 : (opened (Lg.read first n start C)).ok := opened_ok (by show 128 ≤ n; omega) (by show n ≤ 4096; omega) (by show first ≤ 16384; omega) (by show 54 ≤ start; omega) (by show start ≤ 1152921504606; omega) (by
    have := ld_size ((Lg.bare first n start).get C) (start / 54) n 0 ⟨#[]⟩
    show (ldFrom ((Lg.bare first n start).get C) (start / 54) n 0 ⟨#[]⟩).size ≤ 54 * n
    have z : (⟨#[]⟩ : ByteArray).size = 0 := rfl
    omega)
  have hq := wipe_qt (N := N) (opened (Lg.read first n start C)) n 0 C hcl (by show first + (0 + n) ≤ N; omega)
  have hpd : C.pend = [] := by rw [hC]; rfl
  refine ⟨k, k1, k2, k3, k5, hcl, hpd, by rw [hC]; rfl, hq.1, by have := hq.2; rw [hpd] at this; simpa using this, fun hfu => ?_⟩
  have hrun : Run C := by rw [hC]; exact ⟨rfl, hfu⟩
  obtain ⟨w1, w2, w3⟩ := wipe_run (N := N) (opened (Lg.read first n start C)) n 0 C hcl (by show first + (0 + n) ≤ N; omega) hrun
  refine ⟨w1, w2, ?_⟩
  have htk := total_take all k
  have lk : (all.take k).length = k := by rw [List.length_take]; omega
  have eN : (opened (Lg.read first n start C)).n = n := rfl
  have e1 : (opened (Lg.read first n start C)).first = first := rfl
  have e2 : (opened (Lg.read first n start C)).start = start := rfl
  have e6 : (opened (Lg.read first n start C)).fin = start + total (all.take k) := by rw [opened_fin, k3]; rfl
  have e7 : (opened (Lg.read first n start C)).firm = start + total (all.take k) := by rw [opened_firm, k3]; rfl
  have e8 : (opened (Lg.read first n start C)).places = plcFrom start (all.take k) := by rw [opened_plc, k3]; rfl
  have hd : (opened (Lg.read first n start C)).data = (pre ++ enc all).extract 0 (pre.size + total (all.take k)) := by
    rw [k4, ext_long _ _ _ (by omega), Nat.add_sub_cancel_left, enc_take]
  have hF : pre.size + total (all.take f) ≤ (opened (Lg.read first n start C)).data.size := by
    rw [k4, ByteArray.size_append, enc_size]
    have := total_take (all.take k) f
    rw [List.take_take, Nat.min_eq_left k1] at this
    omega
  obtain ⟨r1, r2⟩ := wipe_rg (F := pre.size + total (all.take f)) (T := pre ++ enc all) (S := C) k5 (by rw [e1, eN, e2]; exact aS) hd hF
  have r3 := r2 (by rw [eN]; exact w1)
  rw [e1, eN, e2, k4] at r3
  have bC : Dal (Bd first n L.fin) C := by rw [hC]; exact burn_al (h.bd.crash m kb) fu _
  have hfi : (opened (Lg.read first n start C)).fin ≤ L.fin := by rw [e6, h.fin]; omega
  obtain ⟨x1, x2⟩ := wipe_bd (S := C) k5 (Q := Bd first n L.fin) bC (fun j v b => bd_more (by rw [e1, eN] at b; exact b) hfi)
  have x3 := x2 (by rw [eN]; exact w1)
  rw [eN, e1] at x3
  have hst := h.pz
  have d := flr_ start
  have es : (pre ++ enc (all.take k)).size = pre.size + total (all.take k) := by rw [ByteArray.size_append, enc_size]
  exact { ok := k5, nn := eN, nf := e1, ns := e2, pz := h.pz, data := k4, qt := ⟨hq.1, .inr w3, by rw [w3]; exact Nat.zero_le _⟩, hN := h.hN, rg := (by rw [e7, show start + total (all.take k) - flr start = pre.size + total (all.take k) by omega, ← es]; exact r3), bd := x3, fle := (by omega), tf := (by rw [List.take_take, Nat.min_self, e7]; omega), rs := (fun r hr => h.rs r (List.mem_of_mem_take hr)), bnd := ⟨k, by omega, by rw [List.take_take, Nat.min_self]; exact e7⟩, plc := e8 }
theorem less {g : Nat} (h : Wq N first n start pre L S all f) (hg : g ≤ f) : Wq N first n start pre L S all g :=
  ⟨h.ok, h.nn, h.nf, h.ns, h.pz, h.data, h.qt, h.hN, h.rg, h.bd, Nat.le_trans hg h.fle, by
    have := h.tf
    have := total_take (all.take f) g
    rw [List.take_take, Nat.min_eq_left hg] at this
    omega, h.rs, h.bnd, h.plc⟩
/-- Fuel laid anew. -/
theorem fuel (h : Wq N first n start pre L S all f) (fu : Int) : Wq N first n start pre L { S with fuel := fu } all f :=
  ⟨h.ok, h.nn, h.nf, h.ns, h.pz, h.data, ⟨h.qt.len, h.qt.up, h.qt.few⟩, h.hN, burn_al h.rg fu S.down, burn_al h.bd fu S.down, h.fle, h.tf, h.rs, h.bnd, h.plc⟩
end Wq
/-- The empty log. -/
theorem wq_new (N first n : Nat) (fu : Int) (h1 : 128 ≤ n) (h2 : n ≤ 4096) (h3 : first ≤ 16384) (hN : first + n ≤ N) : Wq N first n 54 ⟨#[]⟩ (Lg.new first n) { Dsk.start (blanks N) with fuel := fu } [] 0 where
  ok := Lg.new_ok first n h1 h2 h3
  nn := rfl
  nf := rfl
  ns := rfl
  pz := rfl
  data := rfl
  qt := ⟨by simp [Dsk.start, blanks], .inr rfl, Nat.zero_le _⟩
  hN := hN
  rg := burn_al (start_rg N first n 1 _) fu false
  bd := burn_al (start_bd N first n 54) fu false
  fle := Nat.le_refl _
  tf := Nat.zero_le _
  rs := fun r hr => by cases hr
  bnd := ⟨0, Nat.le_refl _, rfl⟩
  plc := rfl
end Go.Proofs.Ytplcddcdhnjfeaa
namespace Go.Proofs.Ytplcddcdhnjfeaa
open Go.RowKit

theorem count_lt_none {l : List Nat} {x : Nat} (h : ∀ p ∈ l, x ≤ p) : l.countP (· < x) = 0 := by
  rw [List.countP_eq_zero]
  intro p hp
  have := h p hp
  simp; omega
theorem drop_ge : ∀ (l : List Nat) (x : Nat), l.Pairwise (· < ·) → ∀ p ∈ l.drop (l.countP (· < x)), x ≤ p
  | [], x, _, p, hp => by simp at hp
  | a :: l, x, h, p, hp => by
    rw [List.pairwise_cons] at h
    by_cases c : a < x
    · rw [List.countP_cons_of_pos (by simpa using c)] at hp
      exact drop_ge l x h.2 p hp
    · have hall : ∀ p ∈ a :: l, x ≤ p := fun q hq => by
        rcases List.mem_cons.1 hq with rfl | hq
        · omega
        · have := h.1 q hq; omega
      rw [count_lt_none hall] at hp
      exact hall p hp
theorem asc_len : ∀ (l : List Nat) (a b : Nat), l.Pairwise (· < ·) → (∀ p ∈ l, a ≤ p ∧ p < b) → l.length ≤ b - a
  | [], a, b, _, _ => Nat.zero_le _
  | x :: l, a, b, h, hp => by
    rw [List.pairwise_cons] at h
    have h1 := hp x List.mem_cons_self
    have := asc_len l (x + 1) b h.2 fun p q => ⟨h.1 p q, (hp p (List.mem_cons_of_mem _ q)).2⟩
    rw [List.length_cons]
    omega
/-- A slice of a slice, by what it is known to be, ahead of a region's forced tail. -/
theorem still_slice_as {P : Program} {w : World} {ops : Array Oper} {o : Oper} {rest : List Oper} {a : Act} {Q : Act → Prop} (hgd : o.guard = none) (t : TypeId) (x l : Operand) (ho : o.op = .slice t x (some l) none none) (ht : P.underlying t = some (.slice (P.elem t))) (v lv u : Value) (hx : a.eval x = v) (hl : a.eval l = lv)
    (hr : (Instr.slice t v (some lv) none none).run P w = .ok u w) (h : wpStill P ops w Q rest (a.put o.dst u)) : wpStill P ops w Q (o :: rest) a := by
  refine wpStill_step fun K hK => ?_
  have hw : Region.wanted o (yielded ops a.tmps) = true := by simp [Region.wanted, hgd]
  rw [if_pos hw]
  unfold Oper.still execOp
  simp only [ho, Option.map_some, Option.map_none, hx, hl, run_sliceAt_slice w t v _ _ _ ht, hr, Sem.run_bind, Sem.run_pure, Result.andThen_ok]
  exact ⟨rfl, hK _ h⟩
def Lg.cut (L : Lg) (at_ : Nat) : Lg := { L with places := L.places.drop (L.places.countP (· < at_)), data := L.data.extract (flr at_ - flr L.start) L.data.size, start := at_ }
theorem Lg.cut_ok {L : Lg} (h : L.ok) (at_ : Nat) (h1 : L.start ≤ at_) (h2 : at_ ≤ L.firm) : (L.cut at_).ok := by
  have a1 := h.sf; have a2 := h.fe; have a3 := h.rm; have a4 := h.sz; have a5 := h.s0
  have f1 := flr_mono h1
  have f2 := flr_le at_
  have es : (L.data.extract (flr at_ - flr L.start) L.data.size).size = L.fin - flr at_ := by rw [ByteArray.size_extract]; omega
  have ge := drop_ge L.places at_ h.asc
  have asc : (L.places.drop (L.places.countP (· < at_))).Pairwise (· < ·) := h.asc.drop
  have hi : ∀ p ∈ L.places.drop (L.places.countP (· < at_)), at_ ≤ p ∧ p < L.fin := fun p hp => ⟨ge p hp, (h.hi p (List.mem_of_mem_drop hp)).2⟩
  exact { n1 := h.n1, n2 := h.n2, f1 := h.f1, s0 := (by show 54 ≤ at_; omega), sf := h2, fe := h.fe, big := h.big, sz := es, rm := (by show L.fin - flr at_ ≤ 54 * L.n; omega), few := (by
    show (L.places.drop (L.places.countP (· < at_))).length ≤ (L.data.extract (flr at_ - flr L.start) L.data.size).size
    rw [es]
    have := asc_len _ at_ L.fin asc hi
    omega), asc := asc, hi := hi }
theorem strCells_drop (s : ByteArray) (h : Nat) : (Lib.strCells s).drop h = Lib.strCells (s.extract h s.size) := by
  unfold Lib.strCells
  rw [← List.map_drop]
  congr 1
  show _ = (s.extract h s.size).data.toList
  rw [ByteArray.data_extract]
  have : s.data.size = s.size := rfl
  have hl : (s.data.toList.drop h).length ≤ s.size - h := by rw [List.length_drop]; simp [this]
  simp [List.take_of_length_le hl]
end Go.Proofs.Ytplcddcdhnjfeaa
namespace Go.Proofs.Ytplcddcdhnjfeaa
open Go.RowKit

theorem plc_drop : ∀ (l : List ByteArray) (a g : Nat), (plcFrom a l).drop g = plcFrom (a + total (l.take g)) (l.drop g)
  | l, a, 0 => by rw [List.take_zero, List.drop_zero, List.drop_zero]; rfl
  | [], a, g + 1 => rfl
  | x :: l, a, g + 1 => by
    show (plcFrom (a + (2 + x.size)) l).drop g = plcFrom (a + total (x :: l.take g)) (l.drop g)
    rw [plc_drop l, total_cons, Nat.add_assoc]
/-- The places ahead of a record's are those of the records ahead of it. -/
theorem plc_count : ∀ (l : List ByteArray) (a g : Nat), g ≤ l.length → (plcFrom a l).countP (· < a + total (l.take g)) = g
  | l, a, 0, _ => count_lt_none fun p hp => by have := plc_ge l a p hp; simp [total]; omega
  | [], a, g + 1, h => by simp at h
  | x :: l, a, g + 1, h => by
    have e : plcFrom a (x :: l) = a :: plcFrom (a + (2 + x.size)) l := rfl
    rw [List.take_succ_cons, total_cons, e, List.countP_cons_of_pos (by simp; omega), ← Nat.add_assoc, plc_count l (a + (2 + x.size)) g (by simpa using h)]
theorem total_drop (l : List ByteArray) (g : Nat) : total (l.take g) + total (l.drop g) = total l := by rw [← total_app, List.take_append_drop]
theorem enc_split (l : List ByteArray) (g : Nat) : enc l = enc (l.take g) ++ enc (l.drop g) := by rw [← enc_app, List.take_append_drop]
theorem ext_back (a b : ByteArray) (k : Nat) (h : k ≤ a.size) : (a ++ b).extract k (a ++ b).size = a.extract k a.size ++ b := by
  apply ByteArray.ext
  apply Array.toList_inj.1
  have ha : a.data.toList.length = a.size := rfl
  have hb : b.data.toList.length = b.size := rfl
  have e1 : (a.data.toList ++ b.data.toList).drop k = a.data.toList.drop k ++ b.data.toList := by
    rw [List.drop_append, show k - a.data.toList.length = 0 by omega, List.drop_zero]
  have l1 : (a.data.toList.drop k ++ b.data.toList).length ≤ a.size + b.size - k := by rw [List.length_append, List.length_drop]; omega
  have l2 : (a.data.toList.drop k).length ≤ a.size - k := by rw [List.length_drop]; omega
  simp only [ByteArray.data_extract, ByteArray.data_append, Array.toList_extract, Array.toList_append, ByteArray.size_append, List.extract_eq_take_drop, e1]
  rw [List.take_of_length_le l1, List.take_of_length_le l2]
theorem take_later (l : List ByteArray) (g k : Nat) (h : g ≤ k) : total (l.take g) + total ((l.drop g).take (k - g)) = total (l.take k) := by
  rw [← total_app]
  congr 1
  rw [← List.take_add, show g + (k - g) = k by omega]
theorem total_mono (l : List ByteArray) (g k : Nat) (h : g ≤ k) : total (l.take g) ≤ total (l.take k) := by have := take_later l g k h; omega
theorem Wq.cut {N first n start : Nat} {pre : ByteArray} {L : Lg} {S : Dsk} {all : List ByteArray} {f : Nat} (h : Wq N first n start pre L S all f) (g : Nat) (hg : g ≤ all.length) (at_ : Nat) (ha : at_ = start + total (all.take g)) (hp : at_ ≤ L.firm) :
    ∃ pre', Wq N first n at_ pre' (L.cut at_) S (all.drop g) (f - g) := by
  have hst := h.ns
  have hpz := h.pz
  have hsf := h.ok.sf; have hfe := h.ok.fe
  have hfin := h.fin
  have hmost := h.most
  have htz := h.tz
  have d1 := Wq.flr_ start
  have d2 := Wq.flr_ at_
  have hts := total_drop all g
  obtain ⟨d, hd⟩ : ∃ d, d = at_ / 54 - start / 54 := ⟨_, rfl⟩
  have hle : start / 54 ≤ at_ / 54 := Nat.div_le_div_right (by omega)
  have e0 : flr at_ - flr L.start = 54 * d := by rw [hst]; omega
  have eT : pre ++ enc all = (pre ++ enc (all.take g)) ++ enc (all.drop g) := by rw [ByteArray.append_assoc, ← enc_split]
  have hz1 : (pre ++ enc (all.take g)).size = start % 54 + total (all.take g) := by rw [ByteArray.size_append, enc_size, hpz]
  have hk : 54 * d ≤ (pre ++ enc (all.take g)).size := by rw [hz1]; omega
  have eX : (pre ++ enc all).extract (54 * d) (pre ++ enc all).size = (pre ++ enc (all.take g)).extract (54 * d) (pre ++ enc (all.take g)).size ++ enc (all.drop g) := by
    rw [eT]; exact ext_back _ _ _ hk
  have hpz' : ((pre ++ enc (all.take g)).extract (54 * d) (pre ++ enc (all.take g)).size).size = at_ % 54 := by rw [ByteArray.size_extract, hz1]; omega
  have hrg : ∀ j v, Rg first n (start / 54) (pre ++ enc all) (L.firm - flr start) j v → Bd first n L.fin j v → Rg first n (at_ / 54) ((pre ++ enc all).extract (54 * d) (pre ++ enc all).size) (L.firm - flr at_) j v := fun j v hr hb => by
    have := rg_cut (d := d) hr (by rw [htz, show 54 * (start / 54) + (start % 54 + total all) = L.fin by omega]; exact hb) (by rw [htz]; omega) (by rw [htz]; omega) (by rw [htz]; omega)
    rw [show start / 54 + d = at_ / 54 by omega, show L.firm - flr start - 54 * d = L.firm - flr at_ by omega] at this
    exact this
  rw [eX] at hrg
  have tf := h.tf
  refine ⟨(pre ++ enc (all.take g)).extract (54 * d) (pre ++ enc (all.take g)).size, ⟨Lg.cut_ok h.ok at_ (by omega) hp, h.nn, h.nf, rfl, hpz', ?_, h.qt, h.hN, ⟨fun j hj => hrg _ _ (h.rg.firm j hj) (h.bd.firm j hj), fun p hp => hrg _ _ (h.rg.pend p hp) (h.bd.pend p hp), h.rg.lv⟩, h.bd, ?_, ?_, fun r hr => h.rs r (List.mem_of_mem_drop hr), ?_, ?_⟩⟩
  · show L.data.extract (flr at_ - flr L.start) L.data.size = _
    rw [e0, h.data, eX]
  · have := h.fle; rw [List.length_drop]; omega
  · rw [hpz']
    show at_ % 54 + total ((all.drop g).take (f - g)) ≤ L.firm - flr at_
    by_cases hfg : g ≤ f
    · have := take_later all g f hfg
      omega
    · rw [Nat.sub_eq_zero_of_le (by omega), List.take_zero]
      show at_ % 54 + 0 ≤ _
      omega
  · obtain ⟨g0, g1, g2⟩ := h.bnd
    show ∃ g', g' ≤ (all.drop g).length ∧ L.firm = at_ + total ((all.drop g).take g')
    by_cases hc : g ≤ g0
    · refine ⟨g0 - g, by rw [List.length_drop]; omega, ?_⟩
      have := take_later all g g0 hc
      omega
    · have := total_mono all g0 g (by omega)
      refine ⟨0, Nat.zero_le _, ?_⟩
      rw [List.take_zero]
      show L.firm = at_ + 0
      omega
  · show L.places.drop (L.places.countP (· < at_)) = _
    rw [h.plc, ha, plc_count all start g hg, plc_drop]
end Go.Proofs.Ytplcddcdhnjfeaa
