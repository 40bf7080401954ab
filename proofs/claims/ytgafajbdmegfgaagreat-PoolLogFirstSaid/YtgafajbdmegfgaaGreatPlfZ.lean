/- PoolLogFirst, plain: a log and pages over one device that may give out: what its sectors hold. PoolLogFirst: a pool and its log over a device that may give out, in memory; the calls. PoolLogFirst: what the law reads: a page of a device, a log that is opened, rows of calls; what came in. PoolLogFirst: the walk. PoolLogFirst: behind the crash: what is opened, what is read; pages compared in a drawn region. PoolLogFirst: the walk. -/
import Derived.Test.YtgafajbdmegfgaaGreatPlfO
import Derived.Test.YtgafajbdmegfgaaGreatPlfT
import Derived.Test.YtgafajbdmegfgaaGreatPlfG
import Derived.Great.BuildSlice
import Derived.BigQuiet
import Derived.Deep.CutBlock
import Derived.Deep.DeepCutAuto
import Derived.Deep.AppendLies
set_option linter.unusedVariables false
set_option linter.unusedSimpArgs false
set_option linter.unusedSectionVars false
namespace Go.Proofs.YtgafajbdmegfgaaGreat
open Go.RowKit

/-- A page that was put: which, what, its record's place. -/
structure En where
  i : Nat
  p : Pg
  t : Nat
/-- What a sector of a page may hold. -/
def PgIs (said : List En) (F i : Nat) (p : Pg) (t : Nat) : Prop := (t = 0 ∧ p = Pg.zero) ∨ ∃ e ∈ said, e.i = i ∧ p = e.p ∧ t = e.t ∧ t < F
def Pz (said : List En) (F : Nat) (j : Nat) (v : ByteArray) : Prop := ∀ i k, i < 6 → k < 4 → j = 128 + 4 * i + k → ∃ (p : Pg) (t : Nat), v = Fr.sec p.bytes (Fr.mk t) k ∧ PgIs said F i p t
theorem PgIs.mono {said said' : List En} {F F' i t : Nat} {p : Pg} (h : PgIs said F i p t) (hs : ∀ e ∈ said, e ∈ said') (hF : F ≤ F') : PgIs said' F' i p t := by
  rcases h with h | ⟨e, h1, h2, h3, h4, h5⟩
  · exact .inl h
  · exact .inr ⟨e, hs e h1, h2, h3, h4, by omega⟩
theorem Pz.mono {said said' : List En} {F F' j : Nat} {v : ByteArray} (h : Pz said F j v) (hs : ∀ e ∈ said, e ∈ said') (hF : F ≤ F') : Pz said' F' j v := fun i k hi hk e => by
  obtain ⟨p, t, h1, h2⟩ := h i k hi hk e
  exact ⟨p, t, h1, h2.mono hs hF⟩
theorem pz_log {said : List En} {F j : Nat} {v : ByteArray} (hj : j < 128) : Pz said F j v := fun i k hi hk e => by omega
theorem rg_page {K F j : Nat} {T v : ByteArray} (hj : 128 ≤ j) : Rg 0 128 K T F j v := fun i hi e => by omega
theorem bd_page {M j : Nat} {v : ByteArray} (hj : 128 ≤ j) : Bd 0 128 M j v := fun h1 h2 => by omega
/-- A log of records over a device that others write to as well. -/
structure Wf (L : Lg) (S : Dsk) (all : List ByteArray) : Prop where
  ok : L.ok
  nn : L.n = 128
  nf : L.first = 0
  ns : L.start = 54
  data : L.data = enc all
  len : S.firm.length = 152
  rg : Dal (Rg 0 128 1 (enc all) (L.firm - 54)) S
  bd : Dal (Bd 0 128 L.fin) S
  rs : ∀ r ∈ all, 1 ≤ r.size ∧ r.size < 65536
  bnd : ∃ g, g ≤ all.length ∧ L.firm = 54 + total (all.take g)
  plc : L.places = plcFrom 54 all
theorem flr_54 : flr 54 = 54 := by decide
theorem zapp (a : ByteArray) : (⟨#[]⟩ : ByteArray) ++ a = a := by
  apply ByteArray.ext
  simp
namespace Wf
variable {L : Lg} {S : Dsk} {all : List ByteArray}
theorem fin (h : Wf L S all) : L.fin = 54 + total all := by
  have a := h.ok.sz
  have b := h.ok.sf; have c := h.ok.fe
  rw [h.data, enc_size, h.ns, flr_54] at a
  rw [h.ns] at b
  omega
theorem most (h : Wf L S all) : total all ≤ 6912 := by
  have a := h.ok.rm
  rw [h.ns, h.nn, h.fin, flr_54] at a
  omega
theorem more (h : Wf L S all) (r : ByteArray) (h1 : 1 ≤ r.size) (h2 : r.size < 65536) (hr : r.size + 2 ≤ L.room) : Wf (L.more r) S (all ++ [r]) := by
  have hf := h.fin
  have hm := h.most
  have e : enc (all ++ [r]) = enc all ++ (Oct.str r.size 2 ++ r) := by rw [enc_app, enc_one]
  obtain ⟨g, g1, g2⟩ := h.bnd
  refine ⟨Lg.more_ok h.ok r (by omega) hr (by omega), h.nn, h.nf, h.ns, ?_, h.len, ?_, h.bd.mono fun j v b => bd_more b (Nat.le_add_right _ _), ?_, ⟨g, ?_, ?_⟩, ?_⟩
  · show L.data ++ (Oct.str r.size 2 ++ r) = _
    rw [e, h.data]
  · rw [e]; exact more_rg h.rg _
  · intro x hx
    rcases List.mem_append.1 hx with hx | hx
    · exact h.rs x hx
    · rw [List.mem_singleton.1 hx]; exact ⟨h1, h2⟩
  · rw [List.length_append]; omega
  · rw [List.take_append_of_le_length g1]; exact g2
  · show L.places ++ [L.fin] = _
    rw [plc_snoc, h.plc, hf]
theorem flush_fields (L : Lg) (S : Dsk) (at_ : Int) : ((L.flush S at_).1.start = L.start ∧ (L.flush S at_).1.first = L.first ∧ (L.flush S at_).1.n = L.n ∧ (L.flush S at_).1.data = L.data ∧ (L.flush S at_).1.fin = L.fin ∧ (L.flush S at_).1.places = L.places) ∧ ((L.flush S at_).2.2 ≠ 0 → (L.flush S at_).1 = L) := by
  unfold Lg.flush
  split
  · exact ⟨⟨rfl, rfl, rfl, rfl, rfl, rfl⟩, fun h => absurd rfl h⟩
  split
  · exact ⟨⟨rfl, rfl, rfl, rfl, rfl, rfl⟩, fun _ => rfl⟩
  split
  · exact ⟨⟨rfl, rfl, rfl, rfl, rfl, rfl⟩, fun _ => rfl⟩
  · rename_i a b
    refine ⟨⟨rfl, rfl, rfl, rfl, rfl, rfl⟩, fun h => absurd ?_ h⟩
    exact Decidable.byContradiction fun h => b h
/-- Behind the log's flush: it goes well, and the place is firm; or the device is down. -/
theorem flushed (h : Wf L S all) (at_ : Int) (hok : (L.flush S at_).1.ok) (hl : (L.flush S at_).2.1.firm.length = 152) :
    Wf (L.flush S at_).1 (L.flush S at_).2.1 all ∧ L.firm ≤ (L.flush S at_).1.firm ∧ ((L.flush S at_).2.2 = 0 → at_ < L.fin → at_ < (L.flush S at_).1.firm) := by
  obtain ⟨⟨q2, q3, q4, q5, q6, q7⟩, q8⟩ := flush_fields L S at_
  have hs := h.ns
  have a0 : Dal (Rg L.first L.n (L.start / 54) L.data (L.firm - flr L.start)) S := by rw [h.nf, h.nn, hs, h.data, flr_54]; exact h.rg
  have b0 : Dal (Bd L.first L.n L.fin) (L.flush S at_).2.1 := flush_bd h.ok (by rw [h.nf, h.nn]; exact h.bd) at_
  have b1 : Dal (Bd 0 128 (L.flush S at_).1.fin) (L.flush S at_).2.1 := by rw [q6, ← h.nf, ← h.nn]; exact b0
  obtain ⟨g, g1, g2⟩ := h.bnd
  have hle : L.firm ≤ L.fin := h.ok.fe
  by_cases h0 : (L.flush S at_).2.2 = 0
  · obtain ⟨c1, c2⟩ := flushed_rg h.ok a0 at_ h0
    rw [h.nf, h.nn, hs, h.data, flr_54] at c1
    have key : ((L.flush S at_).1.firm = L.firm ∧ at_ < L.firm) ∨ (L.flush S at_).1.firm = L.fin := by
      by_cases c : at_ < L.firm
      · left
        unfold Lg.flush
        rw [if_pos (.inl c)]
        exact ⟨rfl, c⟩
      · exact .inr (c2 c)
    have nb : ∃ g, g ≤ all.length ∧ (L.flush S at_).1.firm = 54 + total (all.take g) := by
      rcases key with k | k
      · exact ⟨g, g1, by rw [k.1, g2]⟩
      · exact ⟨all.length, Nat.le_refl _, by rw [k, h.fin, List.take_length]⟩
    refine ⟨⟨hok, q4.trans h.nn, q3.trans h.nf, q2.trans h.ns, q5.trans h.data, hl, c1, b1, h.rs, nb, q7.trans h.plc⟩, by rcases key with k | k; rw [k.1]; exact Nat.le_refl _; rw [k]; exact hle, fun _ ha => ?_⟩
    rcases key with k | k
    · rw [k.1]; exact k.2
    · rw [k]; exact ha
  · have e := q8 h0
    have hF : L.firm - flr L.start ≤ L.data.size := by have := h.ok.sz; omega
    have b := flush_rg h.ok a0 hF at_
    rw [h.nf, h.nn, hs, h.data, flr_54] at b
    refine ⟨?_, by rw [e]; exact Nat.le_refl _, fun x => absurd x h0⟩
    rw [e] at hok b1 ⊢
    exact ⟨hok, h.nn, h.nf, h.ns, h.data, hl, b, b1, h.rs, h.bnd, h.plc⟩
theorem dev (h : Wf L S all) {S' : Dsk} (hl : S'.firm.length = 152) (h1 : Dal (Rg 0 128 1 (enc all) (L.firm - 54)) S') (h2 : Dal (Bd 0 128 L.fin) S') : Wf L S' all :=
  ⟨h.ok, h.nn, h.nf, h.ns, h.data, hl, h1, h2, h.rs, h.bnd, h.plc⟩
/-- Behind a crash: the log as the log's own laws meet it. -/
theorem crashed (h : Wf L S all) (m : Nat) (kb : Nat → Bool) : ∃ g, g ≤ all.length ∧ L.firm = 54 + total (all.take g) ∧ Wq 152 0 128 54 ⟨#[]⟩ L (S.crash m kb) all g := by
  obtain ⟨g, g1, g2⟩ := h.bnd
  refine ⟨g, g1, g2, h.ok, h.nn, h.nf, h.ns, rfl, by rw [zapp]; exact h.data, ⟨?_, .inr rfl, Nat.zero_le _⟩, by omega, ?_, h.bd.crash m kb, g1, ?_, h.rs, h.bnd, h.plc⟩
  · rw [crash_len]; exact h.len
  · rw [zapp, flr_54]; exact h.rg.crash m kb
  · rw [flr_54, g2]
    show 0 + total (all.take g) ≤ _
    omega
end Wf
theorem crash_crash (S : Dsk) (m m' : Nat) (kb kb' : Nat → Bool) : (S.crash m kb).crash m' kb' = S.crash m kb := rfl
/-- The log's own writes leave the pages. -/
theorem flush_pz {Q : Nat → ByteArray → Prop} (hq : ∀ j v, j < 128 → Q j v) {L : Lg} {S : Dsk} (hn : L.n = 128) (hf : L.first = 0) (a : Dal Q S) (at_ : Int) : Dal Q (L.flush S at_).2.1 := by
  have w := L.wr_al L.rounds (L.firm / 54) S a fun k _ _ => hq _ _ (by rw [hn, hf]; omega)
  unfold Lg.flush
  split
  · exact a
  split
  · exact w
  split
  · exact w.barrier
  · exact w.barrier
/-- How much may be pending. -/
def Pb (q : Nat) (S : Dsk) : Prop := S.pend.length ≤ q + 20000 ∧ (S.down = false → S.pend.length ≤ q)
/-- What some writes make of a device. -/
structure Step (S S' : Dsk) (n : Nat) (er : Int) : Prop where
  len : S'.firm.length = S.firm.length
  cd : er = 0 ∨ er = 20
  dn : S.down = true → S' = S
  up : er = 0 → S.down = false → S'.down = false
  no : er ≠ 0 → S'.down = true
  pd : S'.pend.length ≤ S.pend.length + n
theorem Step.refl (S : Dsk) : Step S S 0 0 := ⟨rfl, .inl rfl, fun _ => rfl, fun _ h => h, fun h => absurd rfl h, Nat.le_refl _⟩
theorem Step.then_ {S S' S'' : Dsk} {n n' : Nat} {er : Int} (h : Step S S' n 0) (k : Step S' S'' n' er) : Step S S'' (n + n') er :=
  ⟨k.len.trans h.len, k.cd, fun d => by have e := h.dn d; rw [e] at k; exact k.dn d, fun e d => k.up e (h.up rfl d), k.no, by have := h.pd; have := k.pd; omega⟩
theorem Step.weak {S S' : Dsk} {n n' : Nat} {er : Int} (h : Step S S' n er) (hn : n ≤ n') : Step S S' n' er := ⟨h.len, h.cd, h.dn, h.up, h.no, by have := h.pd; omega⟩
theorem write_step (S : Dsk) (i : Nat) (d : ByteArray) (hi : i < S.firm.length) (hd : d.size = 64) : Step S (S.write (i : Int) d).1 1 (S.write (i : Int) d).2 := by
  unfold Dsk.write
  by_cases h : S.down = true
  · rw [if_pos h]; exact ⟨rfl, .inr rfl, fun _ => rfl, (fun e => by cases e), fun _ => h, Nat.le_add_right _ _⟩
  have hf : S.down = false := by simpa using h
  rw [if_neg h, if_pos ⟨by omega, by omega, hd⟩]
  by_cases h0 : S.fuel = 0
  · rw [if_pos h0]; exact ⟨rfl, .inr rfl, fun x => absurd x h, (fun e => by cases e), fun _ => rfl, Nat.le_add_right _ _⟩
  · rw [if_neg h0]; exact ⟨rfl, .inl rfl, fun x => absurd x h, fun _ _ => hf, fun e => absurd rfl e, by simp [Dsk.wrote]⟩
theorem barrier_step (S : Dsk) : Step S S.barrier.1 0 S.barrier.2 ∧ (S.barrier.2 = 0 → S.barrier.1.pend = []) := by
  have hl := barrier_len S
  unfold Dsk.barrier at *
  by_cases h : S.down = true
  · rw [if_pos h] at *; exact ⟨⟨rfl, .inr rfl, fun _ => rfl, (fun e => by cases e), fun _ => h, Nat.le_refl _⟩, fun e => by cases e⟩
  have hf : S.down = false := by simpa using h
  rw [if_neg h] at *
  by_cases h0 : S.fuel = 0
  · rw [if_pos h0] at *; exact ⟨⟨rfl, .inr rfl, fun x => absurd x h, (fun e => by cases e), fun _ => rfl, Nat.le_refl _⟩, fun e => by cases e⟩
  · rw [if_neg h0] at *; exact ⟨⟨hl, .inl rfl, fun x => absurd x h, fun _ _ => hf, fun e => absurd rfl e, Nat.zero_le _⟩, fun _ => rfl⟩
theorem wr_step (L : Lg) (hn : 1 ≤ L.n) : ∀ (m k : Nat) (S : Dsk), L.first + L.n ≤ S.firm.length → Step S (L.wr m k S).1 m (L.wr m k S).2
  | 0, k, S, h => Step.refl S
  | m + 1, k, S, h => by
    have hk : k % L.n < L.n := Nat.mod_lt _ hn
    have s1 := write_step S (L.first + k % L.n) (L.sec k) (by omega) (L.sec_size k)
    simp only [Lg.wr]
    by_cases h0 : (S.write ((L.first + k % L.n : Nat) : Int) (L.sec k)).2 = 0
    · rw [if_pos h0]
      rw [h0] at s1
      exact (s1.then_ (wr_step L hn m (k + 1) _ (by rw [s1.len]; exact h))).weak (by omega)
    · rw [if_neg h0]; exact s1.weak (by omega)
/-- A flush of the log. -/
theorem lflush_step {L : Lg} (h : L.ok) (hn : L.n = 128) (hf : L.first = 0) (S : Dsk) (hl : S.firm.length = 152) (at_ : Int) : Step S (L.flush S at_).2.1 4098 (L.flush S at_).2.2 := by
  have hr : L.rounds ≤ 4098 := by
    have a1 := h.sf; have a2 := h.fe; have a3 := h.rm; have a4 := h.n2
    have := flr_le L.start
    rw [flr_mul] at a3
    have : L.start / 54 ≤ L.firm / 54 := Nat.div_le_div_right a1
    unfold Lg.rounds
    omega
  have s1 := wr_step L (by omega) L.rounds (L.firm / 54) S (by rw [hl, hn, hf]; omega)
  unfold Lg.flush
  split
  · exact (Step.refl S).weak (by omega)
  split
  · exact s1.weak hr
  rename_i a
  have a : (L.wr L.rounds (L.firm / 54) S).2 = 0 := Decidable.byContradiction a
  rw [a] at s1
  have b1 := (barrier_step (L.wr L.rounds (L.firm / 54) S).1).1
  split
  · exact (s1.then_ b1).weak (by omega)
  · rename_i b
    have b : (L.wr L.rounds (L.firm / 54) S).1.barrier.2 = 0 := Decidable.byContradiction b
    exact (s1.then_ b1).weak (by omega)
theorem slwr_step {s : Sl} (hp : s.p.ok) (hi : s.id.toNat < 6) : ∀ (m k : Nat) (S : Dsk), m + k ≤ 4 → S.firm.length = 152 → Step S (s.wr 128 m k S).1 m (s.wr 128 m k S).2
  | 0, k, S, _, _ => Step.refl S
  | m + 1, k, S, hk, hl => by
    have s1 := write_step S (128 + 4 * s.id.toNat + k) (s.sec k) (by omega) (Fr.sec_size (bytes_size s.p hp) (Fr.mk_size s.st) (by omega))
    simp only [Sl.wr]
    by_cases h0 : (S.write ((128 + 4 * s.id.toNat + k : Nat) : Int) (s.sec k)).2 = 0
    · rw [if_pos h0]
      rw [h0] at s1
      exact (s1.then_ (slwr_step hp hi m (k + 1) _ (by omega) (by rw [s1.len]; exact hl))).weak (by omega)
    · rw [if_neg h0]; exact s1.weak (by omega)
theorem slwr_al {Q : Nat → ByteArray → Prop} {s : Sl} (hq : ∀ k, k < 4 → Q (128 + 4 * s.id.toNat + k) (s.sec k)) : ∀ (m k : Nat) (S : Dsk), m + k ≤ 4 → Dal Q S → Dal Q (s.wr 128 m k S).1
  | 0, k, S, _, h => h
  | m + 1, k, S, hk, h => by
    have a := h.write (128 + 4 * s.id.toNat + k) (s.sec k) (hq k (by omega))
    simp only [Sl.wr]
    split
    · exact slwr_al hq m (k + 1) _ (by omega) a
    · exact a
/-- The slots of a pool whose device may give out. -/
def Slk (said : List En) (s : Sl) : Prop := (0 ≤ s.id ∧ s.p.ok) ∧ (s.di = true → ∃ e ∈ said, s.id = (e.i : Int) ∧ s.p = e.p ∧ s.st = e.t)
/-- What was put. -/
structure Said (said : List En) (all : List ByteArray) : Prop where
  ok : ∀ e ∈ said, e.p.ok ∧ e.i < 6 ∧ ∃ g, g < all.length ∧ e.t = 54 + total (all.take g)
  asc : said.Pairwise fun a b => a.t < b.t
theorem total_lt {all : List ByteArray} (hr : ∀ r ∈ all, 1 ≤ r.size ∧ r.size < 65536) {g : Nat} (hg : g < all.length) : total (all.take g) < total all := by
  have h1 := total_drop all g
  have h2 : all.drop g = all[g] :: all.drop (g + 1) := List.drop_eq_getElem_cons hg
  rw [h2] at h1
  have h3 : total (all[g] :: all.drop (g + 1)) = total [all[g]] + total (all.drop (g + 1)) := by rw [← total_app]; rfl
  have h4 : 0 < total [all[g]] := by unfold total; simp; omega
  omega
structure Dv (P : Po) (L : Lg) (S : Dsk) (said : List En) (all : List ByteArray) (q : Nat) : Prop where
  wf : Wf L S all
  pz : Dal (Pz said L.firm) S
  sd : Said said all
  sl : ∀ s ∈ P.ss, Slk said s
  bs : P.base = 128
  pg : P.pages = 6
  fr : P.frames = 4
  pb : Pb q S
namespace Dv
variable {P : Po} {L : Lg} {S : Dsk} {said : List En} {all : List ByteArray} {q : Nat}
theorem fin_gt (h : Dv P L S said all q) {e : En} (he : e ∈ said) : 54 ≤ e.t ∧ e.t < L.fin := by
  obtain ⟨-, -, g, g1, g2⟩ := h.sd.ok e he
  have := total_lt h.wf.rs g1
  rw [h.wf.fin]
  omega
/-- A dirty slot's page goes to the device. -/
theorem sflush (h : Dv P L S said all q) {s : Sl} (hs : Slk said s) (hd : s.di = true) :
    Wf (s.flush 128 L S).1 (s.flush 128 L S).2.1 all ∧ Dal (Pz said (s.flush 128 L S).1.firm) (s.flush 128 L S).2.1 ∧ Step S (s.flush 128 L S).2.1 4102 (s.flush 128 L S).2.2 := by
  obtain ⟨⟨h0, hp⟩, h2⟩ := hs
  obtain ⟨e, he, e1, e2, e3⟩ := h2 hd
  have hk := h.sd.ok e he
  have hi : s.id.toNat = e.i := by omega
  have st1 := lflush_step h.wf.ok h.wf.nn h.wf.nf S h.wf.len (s.st : Int)
  obtain ⟨f1, f2, f3⟩ := h.wf.flushed (s.st : Int) (lflush_ok h.wf.ok S _).1 (st1.len.trans h.wf.len)
  have p1 : Dal (Pz said (L.flush S (s.st : Int)).1.firm) (L.flush S (s.st : Int)).2.1 := flush_pz (fun j v hj => pz_log hj) h.wf.nn h.wf.nf (h.pz.mono fun j v hv => hv.mono (fun e he => he) f2) _
  unfold Sl.flush
  by_cases c : (L.flush S (s.st : Int)).2.2 = 0
  · rw [if_pos c]
    rw [c] at st1
    have hlt := f3 c (by have := (h.fin_gt he).2; rw [e3]; omega)
    have w1 := slwr_step hp (by rw [hi]; exact hk.2.1) 4 0 (L.flush S (s.st : Int)).2.1 (by omega) (st1.len.trans h.wf.len)
    have out : ∀ k, k < 4 → 128 ≤ 128 + 4 * s.id.toNat + k := fun k _ => by omega
    refine ⟨f1.dev (w1.len.trans (st1.len.trans h.wf.len)) (slwr_al (fun k hk => rg_page (out k hk)) 4 0 _ (by omega) f1.rg) (slwr_al (fun k hk => bd_page (out k hk)) 4 0 _ (by omega) f1.bd), slwr_al (fun k hk4 i k' hi' hk' ej => ?_) 4 0 _ (by omega) p1, (st1.then_ w1).weak (by omega)⟩
    obtain ⟨rfl, rfl⟩ : i = s.id.toNat ∧ k' = k := by omega
    exact ⟨s.p, s.st, rfl, .inr ⟨e, he, hi.symm, e2, e3, by show s.st < (L.flush S (s.st : Int)).1.firm; omega⟩⟩
  · rw [if_neg c]
    exact ⟨f1, p1, st1.weak (by omega)⟩
theorem pb_step {S' : Dsk} {n : Nat} {er : Int} (h : Pb q S) (k : Step S S' n er) : Pb (q + n) S' := by
  by_cases hd : S.down = true
  · rw [k.dn hd]
    exact ⟨by have := h.1; omega, fun e => by rw [hd] at e; cases e⟩
  · have hd : S.down = false := by simpa using hd
    have := h.2 hd; have := k.pd
    exact ⟨by omega, fun _ => by omega⟩
theorem mono (h : Dv P L S said all q) {q' : Nat} (hq : q ≤ q') : Dv P L S said all q' := ⟨h.wf, h.pz, h.sd, h.sl, h.bs, h.pg, h.fr, by have := h.pb.1; omega, fun e => by have := h.pb.2 e; omega⟩
/-- Other slots. -/
theorem slots (h : Dv P L S said all q) {P' : Po} (h1 : ∀ s ∈ P'.ss, Slk said s) (h2 : P'.base = P.base) (h3 : P'.pages = P.pages) (h4 : P'.frames = P.frames) : Dv P' L S said all q := ⟨h.wf, h.pz, h.sd, h1, h2.trans h.bs, h3.trans h.pg, h4.trans h.fr, h.pb⟩
theorem good (h : Dv P L S said all q) : ∀ s ∈ P.ss, 0 ≤ s.id ∧ s.p.ok := fun s hs => (h.sl s hs).1
/-- A record more. -/
theorem append (h : Dv P L S said all q) (r : ByteArray) (h1 : 1 ≤ r.size) (h2 : r.size < 65536) (hr : r.size + 2 ≤ L.room) : Dv P (L.more r) S said (all ++ [r]) q := by
  refine ⟨h.wf.more r h1 h2 hr, h.pz, ⟨fun e he => ?_, h.sd.asc⟩, h.sl, h.bs, h.pg, h.fr, h.pb⟩
  obtain ⟨a, b, g, g1, g2⟩ := h.sd.ok e he
  exact ⟨a, b, g, by rw [List.length_append]; omega, by rw [List.take_append_of_le_length (by omega)]; exact g2⟩
/-- A page that is to be put: the last record is its own. -/
theorem say (h : Dv P L S said all q) (e : En) (h1 : e.p.ok) (h2 : e.i < 6) (h3 : ∃ g, g < all.length ∧ e.t = 54 + total (all.take g)) (h4 : ∀ x ∈ said, x.t < e.t) : Dv P L S (said ++ [e]) all q := by
  have sub : ∀ x ∈ said, x ∈ said ++ [e] := fun x hx => List.mem_append_left _ hx
  refine ⟨h.wf, h.pz.mono fun j v hv => hv.mono sub (Nat.le_refl _), ⟨fun x hx => ?_, ?_⟩, fun s hs => ⟨(h.sl s hs).1, fun hd => ?_⟩, h.bs, h.pg, h.fr, h.pb⟩
  · rcases List.mem_append.1 hx with hx | hx
    · exact h.sd.ok x hx
    · rw [List.mem_singleton.1 hx]; exact ⟨h1, h2, h3⟩
  · rw [List.pairwise_append]
    exact ⟨h.sd.asc, List.pairwise_singleton _ _, fun a ha b hb => by rw [List.mem_singleton.1 hb]; exact h4 a ha⟩
  · obtain ⟨x, hx, k⟩ := (h.sl s hs).2 hd
    exact ⟨x, sub x hx, k⟩
theorem fuel (h : Dv P L S said all q) (fu : Int) : Dv P L { S with fuel := fu } said all q :=
  ⟨h.wf.dev h.wf.len (burn_al h.wf.rg fu S.down) (burn_al h.wf.bd fu S.down), burn_al h.pz fu S.down, h.sd, h.sl, h.bs, h.pg, h.fr, h.pb⟩
theorem like {a b : Sl} (h : likeS a b) (k : Slk said b) : Slk said a := by
  obtain ⟨h1, h2, h3, h4⟩ := h
  unfold Slk
  rw [h1, h2, h3, h4]
  exact k
theorem sp (h : Dv P L S said all q) {P1 : Po} {i : Nat} {ok : Bool} (hs : Sp P P1 i ok) : ∀ (j : Nat) (s : Sl), P1.ss[j]? = some s → (ok = true → j ≠ i) → Slk said s := fun j s hj hne => by
  obtain ⟨u, hu, hl⟩ := hs.old hj hne
  exact like hl (h.sl u (List.mem_of_getElem? hu))
theorem set_slk {l : List Sl} {i : Nat} {s : Sl} (h : ∀ (j : Nat) (u : Sl), l[j]? = some u → j ≠ i → Slk said u) (hs : Slk said s) : ∀ u ∈ l.set i s, Slk said u := fun u hu => by
  obtain ⟨j, hj, e⟩ := List.mem_iff_getElem.1 hu
  rw [List.length_set] at hj
  by_cases c : i = j
  · subst c
    rw [List.getElem_set_self] at e
    rw [← e]; exact hs
  · rw [List.getElem_set_ne c] at e
    exact h j u (by rw [← e]; exact List.getElem?_eq_getElem hj) (Ne.symm c)
theorem tb (h : Dv P L S said all q) : ∀ e ∈ said, 54 ≤ e.t ∧ e.t < 18446744073709551616 := fun e he => by
  have := h.fin_gt he
  have := h.wf.ok.big
  omega
theorem one (hd : Said said all) {a b : En} (ha : a ∈ said) (hb : b ∈ said) (e : a.t = b.t) : a = b := by
  obtain ⟨i, hi, rfl⟩ := List.mem_iff_getElem.1 ha
  obtain ⟨j, hj, rfl⟩ := List.mem_iff_getElem.1 hb
  have h1 := List.pairwise_iff_getElem.1 hd.asc
  rcases Nat.lt_trichotomy i j with h | h | h
  · have := h1 i j hi hj h; omega
  · subst h; rfl
  · have := h1 j i hj hi h; omega
theorem zero_ok' : Pg.zero.ok := ⟨by unfold Pg.head Pg.zero; decide, fun i _ => .inl ⟨rfl, rfl⟩⟩
theorem is_ok {F i t : Nat} {p : Pg} (hd : Said said all) (h : PgIs said F i p t) : p.ok := by
  rcases h with ⟨-, rfl⟩ | ⟨e, he, -, rfl, -⟩
  · exact zero_ok'
  · exact (hd.ok e he).1
/-- What the four sectors of a page say. -/
theorem pageAt {F : Nat} (hd : Said said all) (ht : ∀ e ∈ said, 54 ≤ e.t ∧ e.t < 18446744073709551616) (a : Dal (Pz said F) S) (hl : S.firm.length = 152) {i : Nat} (hi : i < 6) :
    Fr.opened (secsOf S 128 i) = (⟨#[]⟩, 0, 30) ∨ ∃ (p : Pg) (t : Nat), p.ok ∧ t < 18446744073709551616 ∧ Fr.opened (secsOf S 128 i) = (p.bytes, t, 0) ∧ PgIs said F i p t := by
  have hk : ∀ k, ∃ (p : Pg) (t : Nat), k < 4 → secsOf S 128 i k = Fr.sec p.bytes (Fr.mk t) k ∧ PgIs said F i p t := fun k => by
    by_cases h : k < 4
    · obtain ⟨p, t, h1, h2⟩ := a.now (128 + 4 * i + k) (by omega) i k hi h rfl
      exact ⟨p, t, fun _ => ⟨h1, h2⟩⟩
    · exact ⟨Pg.zero, 0, fun h' => absurd h' h⟩
  obtain ⟨p, hp⟩ : ∃ p : Nat → Pg, ∀ k, ∃ t : Nat, k < 4 → secsOf S 128 i k = Fr.sec (p k).bytes (Fr.mk t) k ∧ PgIs said F i (p k) t := ⟨fun k => (hk k).choose, fun k => (hk k).choose_spec⟩
  obtain ⟨t, hpt⟩ : ∃ t : Nat → Nat, ∀ k, k < 4 → secsOf S 128 i k = Fr.sec (p k).bytes (Fr.mk (t k)) k ∧ PgIs said F i (p k) (t k) := ⟨fun k => (hp k).choose, fun k => (hp k).choose_spec⟩
  have okp : ∀ k, k < 4 → (p k).ok := fun k h => is_ok hd (hpt k h).2
  have tlt : ∀ k, k < 4 → t k < 18446744073709551616 := fun k h => by
    rcases (hpt k h).2 with ⟨e, -⟩ | ⟨e, he, -, -, e2, -⟩
    · rw [e]; decide
    · rw [e2]; exact (ht e he).2
  have sz : ∀ k, k < 4 → (secsOf S 128 i k).size = 64 := fun k h => by rw [(hpt k h).1]; exact Fr.sec_size (bytes_size _ (okp k h)) (Fr.mk_size _) h
  have tls : ∀ k, k < 4 → Fr.tl (secsOf S 128 i k) = Fr.mk (t k) := fun k h => by rw [(hpt k h).1]; exact Fr.sec_tl (bytes_size _ (okp k h)) h
  by_cases hall : ∀ k, k < 4 → t k = t 0
  · right
    have hsame : ∀ k, k < 4 → p k = p 0 := fun k h => by
      have h0 := (hpt 0 (by omega)).2
      have h1 := (hpt k h).2
      rw [hall k h] at h1
      rcases h0 with ⟨e0, f0⟩ | ⟨x, hx, -, f0, g0, -⟩
      · rcases h1 with ⟨-, f1⟩ | ⟨y, hy, -, -, g1, -⟩
        · rw [f0, f1]
        · have := (ht y hy).1; omega
      · rcases h1 with ⟨e1, -⟩ | ⟨y, hy, -, f1, g1, -⟩
        · have := (ht x hx).1; omega
        · rw [f0, f1, one hd hy hx (by omega)]
    refine ⟨p 0, t 0, okp 0 (by omega), tlt 0 (by omega), ?_, (hpt 0 (by omega)).2⟩
    have := opened_same (s := secsOf S 128 i) (bytes_size _ (okp 0 (by omega))) (Fr.mk_size (t 0)) (fun k h => by rw [(hpt k h).1, hsame k h, hall k h])
    rw [this, Fr.mk_val _ (tlt 0 (by omega))]
  · left
    refine Fr.opened_torn sz ?_
    refine Classical.byContradiction fun hno => hall fun k h => ?_
    refine Classical.byContradiction fun hne => hno ⟨k, h, fun e => hne ?_⟩
    rw [tls k h, tls 0 (by omega)] at e
    exact Fr.mk_inj (tlt k h) (tlt 0 (by omega)) e
/-- A page is got. -/
theorem get (h : Dv P L S said all q) {id : Nat} (hid : id < 6) {P' : Po} {x : Pg} {er : Int} (hr : GetRel P S id P' x er) : Dv P' L S said all q := by
  rcases hr with ⟨j, hj, -, rfl, -, -⟩ | ⟨-, -, rfl, -, -⟩ | ⟨-, hl, -, P1, i, ok, hsp, hc⟩
  · exact h.slots (set_slk (fun k u hu _ => h.sl u (List.mem_of_getElem? hu)) ⟨(h.sl _ (List.getElem_mem hj)).1, (h.sl _ (List.getElem_mem hj)).2⟩) rfl rfl rfl
  · exact h
  · have hx : x.ok := by
      unfold loadP at hl
      split at hl
      · injection hl with _ e; cases e
      rw [h.bs] at hl
      rcases pageAt h.sd h.tb h.pz h.wf.len hid with e | ⟨p, t, p1, p2, p3, p4⟩
      · rw [e] at hl
        rw [if_neg (by show ¬ (30 : Int) = 0; decide)] at hl
        injection hl with _ e; cases e
      · rw [p3] at hl
        rw [if_pos rfl] at hl
        obtain ⟨g1, g2⟩ := good_bytes p p1
        injection hl with e1 e2
        rw [← e1]
        show (Pg.dec p.bytes).ok
        rw [show Pg.dec p.bytes = Pg.of p.bytes from by unfold Pg.dec; exact if_pos g1]
        exact g1.2.1
    rcases hc with ⟨rfl, rfl⟩ | ⟨rfl, hi, rfl⟩
    · exact h.slots (fun s hs => by
        obtain ⟨j, hj, rfl⟩ := List.mem_iff_getElem.1 hs
        exact h.sp hsp j _ (List.getElem?_eq_getElem hj) (fun e => by cases e)) hsp.base hsp.pages hsp.frames
    · exact h.slots (set_slk (fun k u hu hne => h.sp hsp k u hu fun _ => hne) ⟨⟨Int.natCast_nonneg _, hx⟩, fun e => by cases e⟩) hsp.base hsp.pages hsp.frames
/-- A page is put, behind its record. -/
theorem put (h : Dv P L S said all q) (hP : P.ok) {e : En} (he : e ∈ said) {P' : Po} {L' : Lg} {S' : Dsk} {er : Int} (hr : PutRel P L S e.i e.p e.t P' L' S' er) : Dv P' L' S' said all (q + 4102) ∧ (er = 0 ∨ er = 20) := by
  have hk := h.sd.ok e he
  have new : Slk said ⟨(e.i : Int), e.p, e.t, true, true⟩ := ⟨⟨Int.natCast_nonneg _, hk.1⟩, fun _ => ⟨e, he, rfl, rfl, rfl⟩⟩
  rcases hr with ⟨j, hj, -, rfl, rfl, rfl, rfl⟩ | ⟨-, P1, i, hroom, hi, rfl⟩
  · refine ⟨Dv.mono (q := q) ?_ (by omega), .inl rfl⟩
    exact h.slots (set_slk (fun k u hu _ => h.sl u (List.mem_of_getElem? hu)) new) rfl rfl rfl
  · rcases hroom with ⟨ok, hsp, rfl, rfl, rfl, rfl⟩ | ⟨P2, k, hi2, hsp, rfl, hfl, rfl⟩
    · rw [if_pos rfl]
      refine ⟨Dv.mono (q := q) ?_ (by omega), .inl rfl⟩
      exact h.slots (set_slk (fun k u hu hne => h.sp hsp k u hu fun _ => hne) new) hsp.base hsp.pages hsp.frames
    · have s0 : ∀ (j : Nat) (u : Sl), P2.ss[j]? = some u → Slk said u := fun j u hu => h.sp hsp j u hu fun e => by cases e
      have hb : P2.base = 128 := hsp.base.trans h.bs
      obtain ⟨f1, f2, f3⟩ := h.sflush (s0 _ _ (List.getElem?_eq_getElem hi2)) (hsp.full rfl _ hi2)
      rw [hb] at hfl
      rw [← hfl] at f1 f2 f3
      dsimp only at f1 f2 f3
      refine ⟨⟨f1, f2, h.sd, ?_, ?_, ?_, ?_, pb_step h.pb f3⟩, f3.cd⟩
      · by_cases c : er = 0
        · rw [if_pos c]
          dsimp only
          rw [if_pos c]
          refine set_slk (fun j u hu hne => ?_) new
          rw [List.getElem?_set_ne (Ne.symm hne)] at hu
          exact s0 j u hu
        · rw [if_neg c]
          dsimp only
          rw [if_neg c]
          exact fun s hs => by
            obtain ⟨j, hj, rfl⟩ := List.mem_iff_getElem.1 hs
            exact s0 j _ (List.getElem?_eq_getElem hj)
      · split <;> exact hb
      · split <;> exact hsp.pages.trans h.pg
      · split <;> exact hsp.frames.trans h.fr
theorem flushL : ∀ (l : List Int) {P : Po} {S : Dsk} {L : Lg} {S0 : Dsk} {n : Nat}, Wf L S all → Dal (Pz said L.firm) S → Said said all → (∀ s ∈ P.ss, Slk said s) → P.base = 128 → P.ok → Step S0 S n 0 → l.Nodup → (∀ x, x ∈ l ↔ x ∈ dirtyL P.ss) →
    Wf (Go.Proofs.YtgafajbdmegfgaaGreat.flushL l P L S).2.1 (Go.Proofs.YtgafajbdmegfgaaGreat.flushL l P L S).2.2.1 all ∧ Dal (Pz said (Go.Proofs.YtgafajbdmegfgaaGreat.flushL l P L S).2.1.firm) (Go.Proofs.YtgafajbdmegfgaaGreat.flushL l P L S).2.2.1 ∧ (∀ s ∈ (Go.Proofs.YtgafajbdmegfgaaGreat.flushL l P L S).1.ss, Slk said s) ∧ (Go.Proofs.YtgafajbdmegfgaaGreat.flushL l P L S).1.base = 128 ∧ (Go.Proofs.YtgafajbdmegfgaaGreat.flushL l P L S).1.pages = P.pages ∧ (Go.Proofs.YtgafajbdmegfgaaGreat.flushL l P L S).1.frames = P.frames ∧
      Step S0 (Go.Proofs.YtgafajbdmegfgaaGreat.flushL l P L S).2.2.1 (n + 4102 * l.length) (Go.Proofs.YtgafajbdmegfgaaGreat.flushL l P L S).2.2.2
  | [], P, S, L, S0, n, hw, hz, hsd, hs, hb, hP, hst, hn, hm => ⟨hw, hz, hs, hb, rfl, rfl, hst⟩
  | x :: l, P, S, L, S0, n, hw, hz, hsd, hs, hb, hP, hst, hn, hm => by
    obtain ⟨s0, hs0, hd0, hx0⟩ := dirtyL_mem.1 ((hm x).1 List.mem_cons_self)
    obtain ⟨j, hj, hf, hjid⟩ : ∃ (j : Nat) (hj : j < P.ss.length), findL x P.ss = (j : Int) ∧ (P.ss[j]).id = x := by
      rcases findL_cases x P.ss with ⟨-, hh⟩ | ⟨j, hj, h1, h2, -⟩
      · exact absurd hx0 (hh s0 hs0)
      · exact ⟨j, hj, h1, h2⟩
    have hx1 : x ≠ -1 := by
      have := (hs s0 hs0).1.1
      omega
    have huni : ∀ t (ht : t < P.ss.length), (P.ss[t]).id = x → t = j := fun t ht e => Classical.byContradiction fun hne => by
      have := hP.one t j ht hj hne (by rw [e, hjid])
      rw [e] at this
      exact hx1 this
    have hdj : (P.ss[j]).di = true := by
      obtain ⟨t, ht, rfl⟩ := List.mem_iff_getElem.1 hs0
      have := huni t ht hx0
      subst this
      exact hd0
    have hdv : Dv { P with pages := 6, frames := 4 } L S said all (S.pend.length) := ⟨hw, hz, hsd, hs, hb, rfl, rfl, by omega, fun _ => Nat.le_refl _⟩
    obtain ⟨f1, f2, f3⟩ := hdv.sflush (hs _ (List.getElem_mem hj)) hdj
    have hok := hP.clean hj
    have hfb : (P.ss[j]).flush P.base L S = (P.ss[j]).flush 128 L S := by rw [hb]
    rw [flushL_step hj hf, hfb]
    by_cases c : ((P.ss[j]).flush 128 L S).2.2 = 0
    · rw [if_pos c]
      rw [c] at f3
      generalize (P.ss[j]).flush 128 L S = R at *
      obtain ⟨L2, S2, e2⟩ := R
      dsimp only at f1 f2 f3 c ⊢
      have := flushL l f1 f2 hsd (P := { P with ss := P.ss.set j { P.ss[j] with di := false } }) (set_slk (fun k u hu _ => hs u (List.mem_of_getElem? hu)) ⟨(hs _ (List.getElem_mem hj)).1, fun e => by cases e⟩) hb hok (hst.then_ f3) (List.nodup_cons.1 hn).2 (fun y => by
        show y ∈ l ↔ y ∈ dirtyL (P.ss.set j _)
        rw [dirtyL_mem]
        constructor
        · intro hy
          have hyx : y ≠ x := fun e => (List.nodup_cons.1 hn).1 (e ▸ hy)
          obtain ⟨u, hu, hdu, hyu⟩ := dirtyL_mem.1 ((hm y).1 (List.mem_cons_of_mem _ hy))
          obtain ⟨t, ht, rfl⟩ := List.mem_iff_getElem.1 hu
          have htj : j ≠ t := fun e => hyx (by subst e; rw [← hyu, hjid])
          exact ⟨P.ss[t], List.mem_iff_getElem.2 ⟨t, by rw [List.length_set]; exact ht, List.getElem_set_ne htj _⟩, hdu, hyu⟩
        · rintro ⟨u, hu, hdu, hyu⟩
          obtain ⟨t, ht, rfl⟩ := List.mem_iff_getElem.1 hu
          have ht' : t < P.ss.length := by rw [List.length_set] at ht; exact ht
          by_cases e : j = t
          · subst e
            rw [List.getElem_set_self] at hdu
            cases hdu
          · rw [List.getElem_set_ne e] at hdu hyu
            have := (hm y).2 (dirtyL_mem.2 ⟨P.ss[t], List.getElem_mem ht', hdu, hyu⟩)
            rcases List.mem_cons.1 this with e3 | h4
            · exact absurd (huni t ht' (by rw [hyu, e3])).symm e
            · exact h4)
      obtain ⟨a1, a2, a3, a4, a5, a6, a7⟩ := this
      exact ⟨a1, a2, a3, a4, a5, a6, a7.weak (by rw [List.length_cons]; omega)⟩
    · rw [if_neg c]
      exact ⟨f1, f2, hs, hb, rfl, rfl, (hst.then_ f3).weak (by rw [List.length_cons]; omega)⟩
/-- All pages are flushed, or the device gives out. -/
theorem flushAll (h : Dv P L S said all q) (hP : P.ok) : Dv (Go.Proofs.YtgafajbdmegfgaaGreat.flushAll P L S).1 (Go.Proofs.YtgafajbdmegfgaaGreat.flushAll P L S).2.1 (Go.Proofs.YtgafajbdmegfgaaGreat.flushAll P L S).2.2.1 said all q := by
  have hap : P.ss.Pairwise fun a b => a.id ≠ b.id := by
    rw [List.pairwise_iff_getElem]
    intro i j hi hj hij e
    have h1 := hP.one i j hi hj (by omega) e
    have h2 := (h.sl _ (List.getElem_mem hi)).1.1
    omega
  have hlen : (sortedD P).length ≤ 4 := by
    rw [sortedD_len]
    have h1 := dirtyL_len P.ss
    have h2 := hP.len
    rw [h.fr] at h2
    omega
  obtain ⟨a1, a2, a3, a4, a5, a6, a7⟩ := flushL (sortedD P) h.wf h.pz h.sd h.sl h.bs hP (Step.refl S) (sortedD_nodup (dirtyL_nodup hap)) (fun x => by
    unfold sortedD
    exact (List.mergeSort_perm _ _).mem_iff)
  have pbd : ∀ (S2 : Dsk) (er : Int), Step S S2 (0 + 4102 * (sortedD P).length) er → (S2.down = false → S2.pend.length ≤ q) → Pb q S2 := fun S2 er st hd => by
    by_cases hdn : S.down = true
    · rw [st.dn hdn]; exact h.pb
    · have hdn : S.down = false := by simpa using hdn
      have := h.pb.2 hdn
      have := st.pd
      exact ⟨by omega, hd⟩
  unfold Go.Proofs.YtgafajbdmegfgaaGreat.flushAll
  by_cases c : (Go.Proofs.YtgafajbdmegfgaaGreat.flushL (sortedD P) P L S).2.2.2 = 0
  · rw [if_pos c]
    rw [c] at a7
    generalize Go.Proofs.YtgafajbdmegfgaaGreat.flushL (sortedD P) P L S = R at *
    obtain ⟨P2, L2, S2, er⟩ := R
    dsimp only at a1 a2 a3 a4 a5 a6 a7 ⊢
    obtain ⟨b1, b2⟩ := barrier_step S2
    have st := a7.then_ b1
    refine ⟨a1.dev (b1.len.trans a1.len) a1.rg.barrier a1.bd.barrier, a2.barrier, h.sd, a3, a4, a5.trans h.pg, a6.trans h.fr, pbd _ _ st fun hd => ?_⟩
    by_cases e : S2.barrier.2 = 0
    · rw [b2 e]; exact Nat.zero_le _
    · rw [b1.no e] at hd; cases hd
  · rw [if_neg c]
    generalize Go.Proofs.YtgafajbdmegfgaaGreat.flushL (sortedD P) P L S = R at *
    obtain ⟨P2, L2, S2, er⟩ := R
    dsimp only at a1 a2 a3 a4 a5 a6 a7 c ⊢
    exact ⟨a1, a2, h.sd, a3, a4, a5.trans h.pg, a6.trans h.fr, pbd _ _ a7 fun hd => by rw [a7.no c] at hd; cases hd⟩
end Dv
end Go.Proofs.YtgafajbdmegfgaaGreat
namespace Go.Proofs.YtgafajbdmegfgaaGreat
open Go.RowKit

/-- A volume whose device may give out. -/
def Pf (w : World) (B gd gl gp q : Nat) (av : Value) (said : List En) (all : List ByteArray) : Prop :=
  ∃ (I : Wd) (J : Pd) (P : Po) (L : Lg) (S : Dsk), Wl w B I L S ∧ Pq w B J P ∧ (J.dp = I.d.ptr ∧ J.lp = I.ptr) ∧ (I.g = gl ∧ I.d.g = gd ∧ J.g = gp) ∧ Dv P L S said all q ∧ B ≤ w.heap.size ∧ (∀ k, av.ownBlock = some k → I.pv.ownBlock ≠ some k)
section
variable {w w' : World} {B gd gl gp q : Nat} {av : Value} {said : List En} {all : List ByteArray}
theorem Pf.kept (h : Pf w B gd gl gp q av said all) (hb : Below w.heap.size w w') : Pf w' B gd gl gp q av said all := by
  obtain ⟨I, J, P, L, S, h1, h2, h3, h4, h5, h6, h7⟩ := h
  exact ⟨I, J, P, L, S, h1.kept hb, h2.kept hb, h3, h4, h5, Nat.le_trans h6 hb.size, h7⟩
theorem Pf.alloc (h : Pf w B gd gl gp q av said all) (o : Obj) : Pf (w.alloc o) B gd gl gp q av said all := h.kept ((Below.refl w.heap.size w).alloc (Nat.le_refl _) o)
theorem Pf.hB (h : Pf w B gd gl gp q av said all) : B ≤ w.heap.size := by
  obtain ⟨I, J, P, L, S, h1, h2, h3, h4, h5, h6, h7⟩ := h
  exact h6
theorem Pf.many (h : Pf w B gd gl gp q av said all) : said.length ≤ 6912 := by
  obtain ⟨I, J, P, L, S, h1, h2, h3, h4, h5, h6, h7⟩ := h
  have hm := h5.wf.most
  have hf := h5.wf.fin
  have ht : ∀ (l : List En), (l.Pairwise fun a b => a.t < b.t) → (∀ e ∈ l, 54 ≤ e.t ∧ e.t < L.fin) → ∀ j (hj : j < l.length), 54 + j ≤ (l[j]).t := by
    intro l hp hb j
    induction j with
    | zero => intro hj; have := (hb _ (List.getElem_mem hj)).1; omega
    | succ j ih =>
      intro hj
      have h1 := ih (by omega)
      have h2 := List.pairwise_iff_getElem.1 hp j (j + 1) (by omega) hj (by omega)
      omega
  by_cases h0 : said.length = 0
  · omega
  · have h1 := ht said h5.sd.asc (fun e he => h5.fin_gt he) (said.length - 1) (by omega)
    have h2 := (h5.fin_gt (List.getElem_mem (show said.length - 1 < said.length by omega))).2
    omega
/-- What is said more. -/
theorem Pf.say (h : Pf w B gd gl gp q av said all) (e : En) (h1 : e.p.ok) (h2 : e.i < 6) (h3 : ∃ g, g < all.length ∧ e.t = 54 + total (all.take g)) (h4 : ∀ x ∈ said, x.t < e.t) : Pf w B gd gl gp q av (said ++ [e]) all := by
  obtain ⟨I, J, P, L, S, k1, k2, k3, k4, k5, k6, k7⟩ := h
  exact ⟨I, J, P, L, S, k1, k2, k3, k4, k5.say e h1 h2 h3 h4, k6, k7⟩
/-- A row of calls, the law's own, grows. -/
theorem Pf.grownC (h : Pf w B gd gl gp q av said all) {row : Option Nat} (hg : w.grownBy w' row) (hr : ∀ k, row = some k → ∃ cs, Bk w k 43 cs) : Pf w' B gd gl gp q av said all := by
  obtain ⟨I, J, P, L, S, k1, k2, k3, k4, k5, k6, k7⟩ := h
  have hb : ∀ j t cs, Bk w j t cs → t ≠ 43 → w'.heap[j]? = w.heap[j]? := fun j t cs hc hne => hg.block j hc.lt fun e => by
    obtain ⟨cs', hc'⟩ := hr j e.symm
    exact Bk.ne_ hc hc' hne rfl
  exact ⟨I, J, P, L, S, k1.pool fun j _ ⟨t, cs, hc, ht⟩ => hb j t cs hc (by rcases ht with rfl | rfl | rfl | rfl | rfl | rfl <;> decide), k2.of_same fun j _ ⟨t, cs, hc, ht⟩ => hb j t cs hc (by rcases ht with rfl | rfl | rfl <;> decide), k3, k4, k5, Nat.le_trans k6 hg.size, k7⟩
theorem Wl.igrown {I : Wd} {L : Lg} {S : Dsk} {row : Option Nat} (h : Wl w B I L S) (hg : w.grownBy w' row) (hr : ∀ k, row = some k → I.pv.ownBlock ≠ some k ∧ ∃ cur, Bk w k 3 cur) : Wl w' B I L S :=
  ⟨h.box.grown hg (fun e => by obtain ⟨_, cur, hc⟩ := hr _ e.symm; exact Bk.ne_ h.box hc (by decide) rfl), h.bg,
    h.dsk.grown hg (fun j hj => by obtain ⟨_, cur, hc⟩ := hr j hj; exact ⟨_, cur, hc, by decide, by decide, by decide⟩),
    own_grown h.dat hg (fun k hk => (hr k hk).2) (by decide), owns_of_block h.plc fun k hk => hg.block k (owns_block h.plc hk).2.1 (fun e => (hr k e.symm).1 hk), h.ok⟩
/-- The row of places, the law's own, grows. -/
theorem Pf.grownI (h : Pf w B gd gl gp q av said all) {n : Nat} {xs : List Value} (hA : w.ownsRow B 3 1 av n xs) (hg : w.grownBy w' av.ownBlock) {av' : Value} (ha : ∀ k, av'.ownBlock = some k → av.ownBlock = some k ∨ w.heap.size ≤ k) : Pf w' B gd gl gp q av' said all := by
  obtain ⟨I, J, P, L, S, k1, k2, k3, k4, k5, k6, k7⟩ := h
  have hr : ∀ k, av.ownBlock = some k → I.pv.ownBlock ≠ some k ∧ ∃ cur, Bk w k 3 cur := fun k hk => by
    obtain ⟨b1, b2, c, hc⟩ := owns_block hA hk
    exact ⟨k7 k hk, c, hc⟩
  refine ⟨I, J, P, L, S, k1.igrown hg hr, k2.of_same fun j _ ⟨t, cs, hc, ht⟩ => hg.block j hc.lt fun e => ?_, k3, k4, k5, Nat.le_trans k6 hg.size, fun k hk e => ?_⟩
  · obtain ⟨-, cur, hc'⟩ := hr j e.symm
    exact Bk.ne_ hc hc' (by rcases ht with rfl | rfl | rfl <;> decide) rfl
  · rcases ha k hk with h | h
    · exact k7 k h e
    · have := (owns_block k1.plc e).2.1
      omega
/-- Get. -/
theorem pf_get (h : Pf w B gd gl gp q av said all) (id : Int) :
    Calls Tryz.prog 9 #[.pointer (some ⟨gp, 0, none⟩), .int .i64 id] w fun e w' => ∃ (x : Pg) (er : Int), e = .returned (.tuple #[.agg x.cs, .int .i64 er]) ∧ Pf w' B gd gl gp q av said all ∧ Out w w' (PF B w) := by
  obtain ⟨I, J, P, L, S, h1, h2, h3, ⟨rfl, rfl, rfl⟩, h5, h6, h7⟩ := h
  by_cases hid : 0 ≤ id ∧ id < (P.pages : Int)
  · obtain ⟨k, rfl⟩ : ∃ k : Nat, id = (k : Int) := ⟨id.toNat, by omega⟩
    refine (pget_any h1.dsk h2 h3.1 k (by omega) (by rw [h5.bs, h5.pg, h5.wf.len]; decide) h6).mono ?_
    rintro e w' ⟨J', P', x, er, rfl, hq, eg, edp, elp, hr, ho⟩
    have hk : k < 6 := by have := h5.pg; omega
    exact ⟨x, er, rfl, ⟨I, J', P', L, S, h1.sf ho, hq, ⟨edp.trans h3.1, elp.trans h3.2⟩, ⟨rfl, rfl, eg⟩, h5.get hk hr, Nat.le_trans h6 ho.size, h7⟩, sf_pf ho⟩
  · refine (pget_bad h2 id hid).mono ?_
    rintro e w' ⟨rfl, hb⟩
    exact ⟨_, _, rfl, ⟨I, J, P, L, S, h1.kept hb, h2.kept hb, h3, ⟨rfl, rfl, rfl⟩, h5, Nat.le_trans h6 hb.size, h7⟩, .of_below hb _⟩
/-- Put, of what is said. -/
theorem pf_put (h : Pf w B gd gl gp q av said all) {e : En} (he : e ∈ said) (hq : q ≤ 1099511627776) :
    Calls Tryz.prog 12 #[.pointer (some ⟨gp, 0, none⟩), .int .i64 (e.i : Int), .agg e.p.cs, .int .i64 (e.t : Int)] w fun en w' => ∃ er : Int, en = .returned (.int .i64 er) ∧ (er = 0 ∨ er = 20) ∧ Pf w' B gd gl gp (q + 4102) av said all ∧ Out w w' (PF B w) := by
  obtain ⟨I, J, P, L, S, h1, h2, h3, ⟨rfl, rfl, rfl⟩, h5, h6, h7⟩ := h
  obtain ⟨k1, k2, -⟩ := h5.sd.ok e he
  have k3 := h5.tb e he
  have k4 := (h5.fin_gt he).2
  have k5 := h5.wf.ok.big
  refine (pput_any h1 h2 h3.1 h3.2 e.i (by rw [h5.pg]; exact k2) e.p k1 e.t (by omega) h5.good h6 (by have := h5.pb.1; omega)).mono ?_
  rintro en w' ⟨er, p', J', P', L', S', rfl, hw, hq', eg, edp, elp, hr, ho⟩
  obtain ⟨d1, d2⟩ := h5.put h2.ok he hr
  exact ⟨er, rfl, d2, ⟨_, J', P', L', S', hw, hq', ⟨edp.trans h3.1, elp.trans h3.2⟩, ⟨rfl, rfl, eg⟩, d1, Nat.le_trans h6 ho.size, h7⟩, ho⟩
/-- Flush. -/
theorem pf_flush (h : Pf w B gd gl gp q av said all) (hq : q ≤ 549755813888) :
    Calls Tryz.prog 13 #[.pointer (some ⟨gp, 0, none⟩)] w fun en w' => ∃ er : Int, en = .returned (.int .i64 er) ∧ Pf w' B gd gl gp q av said all ∧ Out w w' (PF B w) := by
  obtain ⟨I, J, P, L, S, h1, h2, h3, ⟨rfl, rfl, rfl⟩, h5, h6, h7⟩ := h
  refine (pflush_any h1 h2 h3.1 h3.2 h5.good h6 (by have := h5.pb.1; omega)).mono ?_
  rintro en w' ⟨p', rfl, hw, hq', ho⟩
  exact ⟨_, rfl, ⟨_, J, _, _, _, hw, hq', h3, ⟨rfl, rfl, rfl⟩, h5.flushAll h2.ok, Nat.le_trans h6 ho.size, h7⟩, ho⟩
/-- What a record that is laid may touch. -/
def ApF (B : Nat) (av : Value) (w : World) (k : Nat) : Prop := B ≤ k ∧ av.ownBlock ≠ some k ∧ ∃ t cs, Bk w k t cs ∧ (t = 71 ∨ t = 3 ∨ t = 5)
/-- Append. -/
theorem pf_append (h : Pf w B gd gl gp q av said all) (rec : ByteArray) (hs : rec.size ≤ maxLen) {n : Nat} {xs : List Value} (hA : w.ownsRow B 3 1 av n xs) :
    Calls Tryz.prog 10 #[.pointer (some ⟨gl, 0, none⟩), .string rec] w fun e w' => Out w w' (ApF B av w) ∧
      ((∃ (er : Int), e = .returned (.tuple #[.int .i64 0, .int .i64 er]) ∧ er ≠ 0 ∧ Pf w' B gd gl gp q av said all) ∨
       (∃ t : Nat, e = .returned (.tuple #[.int .i64 (t : Int), .int .i64 0]) ∧ Pf w' B gd gl gp q av said (all ++ [rec]) ∧ (∃ g, g < (all ++ [rec]).length ∧ t = 54 + total ((all ++ [rec]).take g)) ∧ ∀ x ∈ said, x.t < t)) := by
  obtain ⟨I, J, P, L, S, h1, h2, h3, ⟨rfl, rfl, rfl⟩, h5, h6, h7⟩ := h
  have hm := h5.wf.most
  have hf := h5.wf.fin
  refine (append_any h1 rec h6 hs (by omega)).mono ?_
  rintro e w' ⟨rfl, dv, pv, hw, ho, hpv⟩
  have hty : ∀ k, k < w.heap.size → (k = I.g ∨ I.pv.ownBlock = some k ∨ I.dv.ownBlock = some k) → B ≤ k ∧ av.ownBlock ≠ some k ∧ ∃ t cs, Bk w k t cs ∧ (t = 71 ∨ t = 3 ∨ t = 5) := fun k _ hk => by
    rcases hk with rfl | hk | hk
    · exact ⟨h1.bg, fun e => by obtain ⟨a1, a2, c, hc⟩ := owns_block hA e; exact Bk.ne_ hc h1.box (by decide) rfl, _, _, h1.box, .inl rfl⟩
    · obtain ⟨b1, b2, c, hc⟩ := owns_block h1.plc hk
      exact ⟨b1, fun e => h7 _ e hk, _, _, hc, .inr (.inl rfl)⟩
    · obtain ⟨b1, b2, c, hc⟩ := owns_block h1.dat hk
      exact ⟨b1, fun e => by obtain ⟨a1, a2, c2, hc2⟩ := owns_block hA e; exact Bk.ne_ hc2 hc (by decide) rfl, _, _, hc, .inr (.inr rfl)⟩
  have pvZ : ∀ k, av.ownBlock = some k → pv.ownBlock ≠ some k := fun k e e2 => by
    rcases hpv k e2 with h | h
    · exact h7 k e h
    · have := (owns_block hA e).2.1
      omega
  have hP : Pq w' B J P := h2.out ho fun k hk hpk => by
    obtain ⟨-, -, t, cs, hc, ht⟩ := hty k hk hpk
    refine ⟨t, cs, hc, ?_⟩
    rcases ht with rfl | rfl | rfl <;> decide
  refine ⟨ho.mono fun k hk hpk => hty k hk hpk, ?_⟩
  by_cases hA : rec.size = 0 ∨ 65535 < rec.size ∨ L.room < rec.size + 2
  · obtain ⟨er, hE, hne⟩ : ∃ er, L.append rec = (L, 0, er) ∧ er ≠ 0 := by
      unfold Lg.append
      by_cases h0 : rec.size = 0
      · exact ⟨1, by rw [if_pos h0], by decide⟩
      by_cases h1 : 65535 < rec.size
      · exact ⟨2, by rw [if_neg h0, if_pos h1], by decide⟩
      · exact ⟨70, by rw [if_neg h0, if_neg h1, if_pos (by omega)], by decide⟩
    rw [hE] at hw ⊢
    exact .inl ⟨er, rfl, hne, ⟨⟨I.g, I.d, dv, pv⟩, J, P, L, S, hw, hP, h3, ⟨rfl, rfl, rfl⟩, h5, Nat.le_trans h6 ho.size, pvZ⟩⟩
  · have h0 : ¬ rec.size = 0 := fun h => hA (.inl h)
    have h1' : ¬ 65535 < rec.size := fun h => hA (.inr (.inl h))
    have h2' : ¬ L.room < rec.size + 2 := fun h => hA (.inr (.inr h))
    have hE : L.append rec = (L.more rec, L.fin, 0) := by unfold Lg.append; rw [if_neg h0, if_neg h1', if_neg h2']
    rw [hE] at hw ⊢
    refine .inr ⟨L.fin, rfl, ⟨⟨I.g, I.d, dv, pv⟩, J, P, L.more rec, S, hw, hP, h3, ⟨rfl, rfl, rfl⟩, h5.append rec (by omega) (by omega) (by omega), Nat.le_trans h6 ho.size, pvZ⟩, ⟨all.length, by simp, ?_⟩, fun x hx => (h5.fin_gt hx).2⟩
    rw [List.take_append_of_le_length (Nat.le_refl _), List.take_length]
    exact hf
end
end Go.Proofs.YtgafajbdmegfgaaGreat
namespace Go.Proofs.YtgafajbdmegfgaaGreat
open Go.RowKit Go.ChangeShapes Go.WideShapes Go.ChangeAt Go.Deep

section
variable {H : Type} {enc : TypeId × Value → H} {w : World} {base : Nat} {held : Bool}
set_option maxRecDepth 100000 in
/-- Bools that came in. -/
theorem read_kb {r : Reach} {b0 : Nat} {d : DataW H} {p : List MemPlace} {v : Value}
    (hv : Value.okWide Tryz.prog w r b0 23 v) (h : DataW.Trod enc Tryz.prog w base (fun _ => true) held 23 v d p) : ∃ m : Nat, ∃ kb, Kb w w.heap.size v m kb := by
  obtain ⟨q, hq, hz, hf⟩ := read_cells Tryz.underlying23 (by kernel_rfl) hv h
  have hk : ∀ i, ∃ s : Bool, i < q.len → q.f i 0 = .bool s := by
    intro i
    by_cases hi : i < q.len
    · obtain ⟨n, y, h0⟩ := hf i hi
      obtain ⟨s, hs, _⟩ := DataW.trod_bool Tryz.underlying4 h0
      exact ⟨s, fun _ => by simpa using hs⟩
    · exact ⟨false, fun h => absurd h hi⟩
  refine ⟨q.len, fun i => (hk i).choose, q.a, q.cap, hq.val, fun hm => ?_⟩
  obtain ⟨b, off, e, hlt, hc⟩ := hq.at_ hm
  refine ⟨b, off, e, hlt, fun i hi => ?_⟩
  have := hc i 0 hi (by omega)
  rw [Nat.mul_one, Nat.add_zero, (hk i).choose_spec hi] at this
  exact this
end
set_option maxRecDepth 100000 in
set_option maxHeartbeats 8000000 in
/-- A page's sectors, read by the law. -/
theorem fread_any {w : World} {B : Nat} {I : Ids} {S : Dsk} (hD : Dk w B I S) (hdn : S.down = false) (hl : S.firm.length = 152) (i : Nat) (hi : i < 6) (hz : ∀ k, k < 4 → (secsOf S 128 i k).size = 64) :
    Calls Tryz.prog 16 #[.pointer (some ⟨I.g, 0, none⟩), .int .i64 (i : Int)] w fun e w' => e = .returned (.tuple #[.string (Fr.opened (secsOf S 128 i)).1, .int .u64 (Fr.opened (secsOf S 128 i)).2.1, .int .i64 (Fr.opened (secsOf S 128 i)).2.2]) ∧ Below w.heap.size w w' := by
  obtain ⟨s, hs⟩ : ∃ s : Nat → ByteArray, s = secsOf S 128 i := ⟨_, rfl⟩
  have CR := Lib.hid (show ∀ w1, Below w.heap.size w w1 → ∀ k : Nat, k < 4 → Calls Tryz.prog 39 #[.pointer (some ⟨I.g, 0, none⟩), .int .i64 (128 + 4 * (i : Int) + (k : Int))] w1 fun e w' => e = .returned (.tuple #[.string (s k), .int .i64 0]) ∧ w' = w1 from fun w1 hb k hk => by
    refine (read_any (hD.kept hb) (128 + 4 * (i : Int) + (k : Int))).mono ?_
    rintro e w' ⟨rfl, rfl⟩
    have hr : S.read (128 + 4 * (i : Int) + (k : Int)) = (s k, 0) := by
      unfold Dsk.read
      rw [if_neg (by rw [hdn]; decide), if_pos ⟨by omega, by omega⟩, hs]
      unfold secsOf
      congr 2
    rw [hr]
    exact ⟨rfl, rfl⟩)
  have SZ := Lib.hid (show ∀ k : Nat, k < 4 → (s k).size = 64 from by rw [hs]; exact hz)
  have CO := fun w' => ropen_any s w' (fun k hk => by rw [SZ.out k hk]; unfold maxLen; omega)
  rw [← hs]
  obtain ⟨op, hop⟩ : ∃ op, op = Fr.opened s := ⟨_, rfl⟩
  rw [← hop] at CO ⊢
  have CO := Lib.hid CO
  have A0 := Lib.hid (Bk.new w 95 (Fr.arr (Fr.upto s 0)))
  have B0 := Lib.hid ((Below.refl w.heap.size w).alloc (Nat.le_refl _) (.cells (Fr.arr (Fr.upto s 0)) 95))
  have hi2 : i < 1024 := by omega
  obtain ⟨gI, hgI⟩ : ∃ gI, gI = I.g := ⟨_, rfl⟩
  rw [← hgI] at CR ⊢
  clear hs hD hdn hl hz hop hgI hi
  go_enter Tryz.func16, Tryz.ntmps16
  go_upto_region 2 with fail
  change Code.wp _ _ _ _ (w.alloc (.cells (Fr.arr (Fr.upto s 0)) 95))
  generalize w.alloc (.cells (Fr.arr (Fr.upto s 0)) 95) = w1 at *
  obtain ⟨G, hG⟩ : ∃ G, G = w.heap.size := ⟨_, rfl⟩
  have GW := Lib.hid (show w.heap.size ≤ G by omega)
  rw [← hG] at A0 ⊢
  clear hG
  go_wp2_with fail
  go_loopw [11] (fun x wr => ∃ k : Nat, k ≤ 4 ∧ x = .int .i64 k ∧ Bk wr G 95 (Fr.arr (Fr.upto s k)) ∧ Below w.heap.size w wr) (fun x _ => 4 - (intOf x).toNat)
  case atStart => exact ⟨0, Nat.zero_le _, rfl, A0.out, B0.out⟩
  case round =>
    clear A0 B0
    obtain ⟨k, hk, rfl, ha, hb⟩ := hrel
    have A := Lib.hid ha; have BW := Lib.hid hb
    clear ha hb
    by_cases hlt : k < 4
    · have HLT := Lib.hid hlt
      have CK := Lib.hid (CR.out wr BW.out k hlt)
      have hk3 : (k : Int) < 4 := by omega
      have hk4 : ¬ (k : Int) < 0 := by omega
      go_wp2_with fail
      refine CK.out.mono ?_
      rintro e w2 ⟨rfl, rfl⟩
      have ya : w2.cell? ⟨G, k, none⟩ = some (.string (Fr.upto s k k)) := by rw [A.out.cell, Fr.arr_get _ k hlt]
      have fa := A.out.fz k
      have A4 := Lib.hid (show Bk (w2.setCell ⟨G, k, none⟩ (.string (s k))) G 95 (Fr.arr (Fr.upto s (k + 1))) from by
        rw [← Fr.arr_set _ k hlt]; exact A.out.set k _)
      have B4 := Lib.hid (BW.out.setCell (p := ⟨G, k, none⟩) GW.out (.string (s k)))
      clear A BW CK
      generalize s k = sk at *
      go_wp2
      go_roundw
      case rel => exact ⟨k + 1, by have := HLT.out; omega, by go_num, A4.out, B4.out⟩
      case measure => have := HLT.out; simp [intOf]; omega
    · obtain rfl : k = 4 := by omega
      have A4 := Lib.hid (show Bk wr G 95 (Fr.arr s) from by have := A.out; rw [Fr.arr_full] at this; exact this)
      clear A hlt hk CR SZ
      obtain ⟨o1, o2, o3⟩ := op
      dsimp only at CO ⊢
      go_wp2_with (refine pload_arr rfl _ rfl G s rfl A4.out ?_)
      refine (CO.out _).mono ?_
      rintro e w5 ⟨rfl, hb⟩
      have B5 := Lib.hid (below_then BW.out hb BW.out.size)
      clear hb CO
      go_wp2
      refine bodyPost_ret (v := .tuple #[.string o1, .int .u64 o2, .int .i64 o3]) (by simp [results, Tryz.results16, go_sem]) rfl ?_
      exact ⟨rfl, B5.out⟩
/-- Open behind a crash: the log's records, at least those that were firm; the pages stay. -/
theorem open_pz {I : Ids} {C : Dsk} {w : World} {B : Nat} {L : Lg} {all : List ByteArray} {g : Nat} {Q : Nat → ByteArray → Prop} (hD : Dk w B I C) (hQ : Wq 152 0 128 54 ⟨#[]⟩ L C all g) (hC : C = C.crash 0 fun _ => false) (hq : ∀ j v, j < 128 → Q j v) (hz : Dal Q C) (hB : B ≤ w.heap.size) :
    Calls Tryz.prog 15 #[I.ptr, .int .i64 0, .int .i64 128, .int .i64 54] w fun e w' => ∃ k p' gl ea ec S', g ≤ k ∧ k ≤ all.length ∧ e = .returned (.tuple #[.pointer (some ⟨gl, 0, none⟩), .slice ea k ec, .int .i64 0]) ∧
      w'.ownsRow B 61 2 (.slice ea k ec) k (enL 54 (all.take k)) ∧ Dk w' B (I.with p') S' ∧ Dal Q S' ∧ S'.down = false ∧ S'.firm.length = 152 ∧ Below B w w' := by
  obtain ⟨k, k1, k2, k3, k4, k5, k6, k7, k10, -, k8⟩ := hQ.crashed (by omega) (by omega) 0 (fun _ => false) (-1) C (by rw [hC]; rfl)
  obtain ⟨k9, ka, kc⟩ := k8 rfl
  refine (open_good hD 0 128 54 k7 (by omega) (by omega) (by rw [k5]; omega) (by omega) (by omega) hB (by rw [k6]; exact Nat.zero_le _)).mono ?_
  rintro e w' ⟨p', hb, hcase⟩
  rcases hcase with ⟨-, gl, ev, dv, pv, rfl, hO, hW⟩ | ⟨h, -⟩
  · have lk : (all.take k).length = k := by rw [List.length_take]; omega
    rw [k3, lk] at hO
    obtain ⟨ea, ec, rfl⟩ := tx_slice hO
    refine ⟨k, p', gl, ea, ec, _, k1, k2, rfl, hO, hW.dsk, Lg.wipe_al _ _ _ _ hz fun j _ hj => hq _ _ ?_, ka.1, k10, hb⟩
    show 0 + j < 128
    omega
  · exact absurd k9 h
/-- Calls in a row of one's own. -/
def cpL (l : List Cp) : List Value := l.flatMap fun c => c.cs.toList
theorem cpL_app (l : List Cp) (c : Cp) : cpL (l ++ [c]) = cpL l ++ c.cs.toList := by unfold cpL; rw [List.flatMap_append]; simp
theorem cpL_get : ∀ (l : List Cp) (i : Nat) (c : Cp) (j : Nat) (u : Value), l[i]? = some c → c.cs.toList[j]? = some u → (cpL l)[i * 19 + j]? = some u
  | [], i, c, j, u, h, _ => by simp at h
  | x :: l, 0, c, j, u, h, hu => by
    simp only [List.getElem?_cons_zero, Option.some.injEq] at h
    subst h
    have hj : j < x.cs.toList.length := (List.getElem?_eq_some_iff.1 hu).1
    show (x.cs.toList ++ cpL l)[0 * 19 + j]? = some u
    rw [Nat.zero_mul, Nat.zero_add, List.getElem?_append_left hj]
    exact hu
  | x :: l, i + 1, c, j, u, h, hu => by
    show (x.cs.toList ++ cpL l)[(i + 1) * 19 + j]? = some u
    rw [List.getElem?_append_right (by rw [cp_len]; omega), cp_len, show (i + 1) * 19 + j - 19 = i * 19 + j by omega]
    exact cpL_get l i c j u (by simpa using h) hu
def CRow (w : World) (B : Nat) (v : Value) (l : List Cp) : Prop := w.ownsRow B 43 19 v l.length (cpL l)
theorem CRow.range {w : World} {B : Nat} {v : Value} {l : List Cp} (h : CRow w B v l) {i : Nat} {c : Cp} (hi : l[i]? = some c) : ∃ g cap, v = .slice (some ⟨g, 0, none⟩) l.length cap ∧ w.rangeAt g (i * 19) c.cs.toList := by
  have hl := (List.getElem?_eq_some_iff.1 hi).1
  obtain ⟨g, cap, hv, h1, h2⟩ := World.ownsRow.form h (by omega)
  refine ⟨g, cap, hv, fun j u hu => ?_⟩
  subst hv
  have := World.ownsRow.cells h (g := g) rfl (i * 19 + j) u (cpL_get l i c j u hi hu)
  rw [Addr.add_lit, Nat.zero_add] at this
  exact this
end Go.Proofs.YtgafajbdmegfgaaGreat
namespace Go.Proofs.YtgafajbdmegfgaaGreat
open Go.RowKit

def en (x : Cp × Nat) : En := ⟨x.1.id.toNat, x.1.p, x.2⟩
def atL (l : List (Cp × Nat)) : List Value := l.map fun x => .int .i64 (x.2 : Int)
/-- The law's own, between two calls. -/
structure Pw (w0 w : World) (B gd gl gp : Nat) (ls : List (Cp × Nat)) (all : List ByteArray) (sv av : Value) : Prop where
  pf : Pf w B gd gl gp (4102 * ls.length) av (ls.map en) all
  cr : CRow w B sv (ls.map (·.1))
  ar : w.ownsRow B 3 1 av ls.length (atL ls)
  ok : ∀ x ∈ ls, CpOk x.1 ∧ (0 ≤ x.1.id ∧ x.1.id < 6 ∧ x.1.p.ok)
  b : Below w0.heap.size w0 w
  hw : w0.heap.size ≤ B
namespace Pw
variable {w0 w w' : World} {B gd gl gp : Nat} {ls : List (Cp × Nat)} {all : List ByteArray} {sv av : Value}
theorem kept (h : Pw w0 w B gd gl gp ls all sv av) (hb : Below w.heap.size w w') : Pw w0 w' B gd gl gp ls all sv av :=
  ⟨h.pf.kept hb, ow_kept h.cr hb, ow_kept h.ar hb, h.ok, below_then h.b hb h.b.size, h.hw⟩
theorem alloc (h : Pw w0 w B gd gl gp ls all sv av) (o : Obj) : Pw w0 (w.alloc o) B gd gl gp ls all sv av := h.kept ((Below.refl w.heap.size w).alloc (Nat.le_refl _) o)
theorem few (h : Pw w0 w B gd gl gp ls all sv av) : ls.length ≤ 6912 := by
  have := h.pf.many
  rwa [List.length_map] at this
theorem below_pf (h : Pw w0 w B gd gl gp ls all sv av) (ho : Out w w' (PF B w)) : Below w0.heap.size w0 w' :=
  h.b.trans ((ho.below h.pf.hB fun k hk => hk.1).mono h.hw)
theorem out_pf (h : Pw w0 w B gd gl gp ls all sv av) (ho : Out w w' (PF B w)) (hp : Pf w' B gd gl gp (4102 * ls.length) av (ls.map en) all) : Pw w0 w' B gd gl gp ls all sv av :=
  ⟨hp, own_pf h.cr ho (by unfold plT; decide), own_pf h.ar ho (by unfold plT; decide), h.ok, h.below_pf ho, h.hw⟩
theorem out_ap (h : Pw w0 w B gd gl gp ls all sv av) (ho : Out w w' (ApF B av w)) {all' : List ByteArray} (hp : Pf w' B gd gl gp (4102 * ls.length) av (ls.map en) all') : Pw w0 w' B gd gl gp ls all' sv av := by
  refine ⟨hp, owns_of_block h.cr fun k hk => ?_, owns_of_block h.ar fun k hk => ?_, h.ok, h.b.trans ((ho.below h.pf.hB fun k hk => hk.1).mono h.hw), h.hw⟩
  · obtain ⟨h1, h2, c, hc⟩ := owns_block h.cr hk
    refine ho.block k h2 fun ⟨_, _, t', cs', hc', ht'⟩ => ?_
    exact Bk.ne_ hc hc' (by rcases ht' with rfl | rfl | rfl <;> decide) rfl
  · obtain ⟨h1, h2, c, hc⟩ := owns_block h.ar hk
    exact ho.block k h2 fun ⟨_, hne, _⟩ => hne hk
end Pw
section
variable {ops : Array Oper} {rest : List Oper} {o : Oper} {a : Act} {w : World} {Q : Exit → Act → World → Prop}
theorem info_cp : (Tryz.prog.info? 43).map (fun i => (i.zero, i.size, i.bytes)) = some (some (.agg Cp.zero.cs), 19, 208) := by kernel_rfl
theorem slice1_cp (hg : o.guard = none) (x : Operand) (ho : o.op = .buildSlice 22 1 #[(0, x)]) (u : Cp)
    (hx : a.eval x = .agg u.cs) (h : wpList Tryz.prog ops Q rest (a.put o.dst (.slice (some ⟨w.heap.size, 0, none⟩) 1 1)) (w.alloc (.cells u.cs 43))) : wpList Tryz.prog ops Q (o :: rest) a w := by
  obtain ⟨i0, hi0, hz0, hz1, hz2⟩ := info_parts info_cp
  refine wpList_buildSlice hg 22 43 1 #[(0, x)] ho u.cs i0 _ Tryz.underlying22 hi0 hz0 (by rw [hz1]; decide) (by rw [hz1]; decide) ?_ h
  rw [hz1]
  simp only [List.map_toArray, List.map_cons, List.map_nil, hx]
  kernel_rfl
theorem load_cp (hgd : o.guard = none) (x : Operand) (ho : o.op = .load 43 x) (g : Nat) (p : Cp) (hx : a.eval x = .pointer (some ⟨g, 0, none⟩)) (hb : Bk w g 43 p.cs)
    (h : wpList Tryz.prog ops Q rest (a.put o.dst (.agg p.cs)) w) : wpList Tryz.prog ops Q (o :: rest) a w :=
  wpList_load_row hgd 43 x ho g hx 43 p.cs (0, 0) _ hb Tryz.underlying43 rfl (by rw [show p.cs.size = 19 from rfl]; kernel_rfl) h
end
theorem pf_start {w w' : World} {B gl gp : Nat} {I : Ids} {p' q' : Value} (fm : Int) (hw : Wl w B ⟨gl, I.with p', .slice none 0 0, .slice none 0 0⟩ (Lg.new 0 128) (.start (blanks 152))) (hq : Pq w B ⟨gp, .slice none 0 0, [], I.ptr, .pointer (some ⟨gl, 0, none⟩)⟩ ⟨128, 6, 4, [], 0⟩) (hB : B ≤ w.heap.size)
    (hd : Dk w' B (I.with q') { Dsk.start (blanks 152) with fuel := fm }) (ho : Out w w' (I.with p').foot) : Pf w' B I.g gl gp 0 (.slice none 0 0) [] [] := by
  have hq0 := wq_new 152 0 128 fm (by omega) (by omega) (by omega) (by omega)
  have hd' : Dk w' B ((I.with p').with q') { Dsk.start (blanks 152) with fuel := fm } := hd
  refine ⟨_, _, _, _, _, hw.disk (p' := q') hd' ho, hq.out ho fun k hk hf => ?_, ⟨rfl, rfl⟩, ⟨rfl, rfl, rfl⟩, ⟨⟨hq0.ok, hq0.nn, hq0.nf, hq0.ns, by rw [← zapp (enc [])]; exact hq0.data, hq0.qt.len, ?_, hq0.bd, hq0.rs, hq0.bnd, hq0.plc⟩, burn_al (Dal.start fun j hj => ?_) fm false, ⟨fun e he => (by cases he), .nil⟩, fun s hs => (by cases hs), rfl, rfl, rfl, ⟨Nat.zero_le _, fun _ => Nat.zero_le _⟩⟩, Nat.le_trans hB ho.size, fun k hk => (by cases hk)⟩
  · have hlt := (hw.dsk.foot_lt hf).2
    rcases hf with rfl | rfl | rfl | hk
    · exact ⟨_, _, hw.dsk.box, by decide, by decide, by decide⟩
    · obtain ⟨c, hc, _⟩ := hw.dsk.firm; exact ⟨_, _, hc, by decide, by decide, by decide⟩
    · obtain ⟨c, hc, _⟩ := hw.dsk.now; exact ⟨_, _, hc, by decide, by decide, by decide⟩
    · obtain ⟨_, _, c, hc⟩ := owns_block hw.dsk.pend hk; exact ⟨_, _, hc, by decide, by decide, by decide⟩
  · have := hq0.rg
    rw [zapp, flr_54] at this
    exact this
  · intro i k hi hk _
    refine ⟨Pg.zero, 0, ?_, .inl ⟨rfl, rfl⟩⟩
    rw [blank_sec k hk]
    unfold blanks at hj ⊢
    rw [List.length_replicate] at hj
    rw [List.getD_eq_getElem?_getD, List.getElem?_replicate, if_pos hj]
    rfl
namespace Pw
variable {w0 w w' : World} {B gd gl gp : Nat} {ls : List (Cp × Nat)} {all : List ByteArray} {sv av : Value}
/-- A call more is said: its row grows. -/
theorem saidC (h : Pw w0 w B gd gl gp ls all sv av) {c : Cp} {sv' : Value} (hown : w'.ownsRow B 43 19 sv' (ls.length + 1) (cpL (ls.map (·.1)) ++ c.cs.toList)) (hg : w.grownBy w' sv.ownBlock) :
    Pf w' B gd gl gp (4102 * ls.length) av (ls.map en) all ∧ CRow w' B sv' ((ls.map (·.1)) ++ [c]) ∧ w'.ownsRow B 3 1 av ls.length (atL ls) ∧ Below w0.heap.size w0 w' := by
  have hr : ∀ k, sv.ownBlock = some k → ∃ cs, Bk w k 43 cs := fun k hk => by
    obtain ⟨-, -, c, hc⟩ := owns_block h.cr hk
    exact ⟨c, hc⟩
  refine ⟨h.pf.grownC hg hr, ?_, own_grown h.ar hg hr (by decide), bl_grow h.b hg (fun k hk => ?_) h.b.size⟩
  · unfold CRow
    rw [cpL_app, List.length_append, List.length_map]
    exact hown
  · have := (owns_block h.cr hk).1
    have := h.hw
    omega
end Pw
end Go.Proofs.YtgafajbdmegfgaaGreat
namespace Go.Proofs.YtgafajbdmegfgaaGreat
open Go.RowKit

theorem en_at : ∀ (l : List ByteArray) (a g : Nat), g < l.length → ∃ r, (enL a l)[g * 2]? = some (.int .i64 ((a + total (l.take g) : Nat) : Int)) ∧ (enL a l)[g * 2 + 1]? = some (.string r)
  | [], a, g, h => absurd h (Nat.not_lt_zero g)
  | x :: l, a, 0, h => ⟨x, rfl, rfl⟩
  | x :: l, a, g + 1, h => by
    obtain ⟨r, h1, h2⟩ := en_at l (a + (2 + x.size)) g (by simpa using h)
    have e : enL a (x :: l) = .int .i64 (a : Int) :: .string x :: enL (a + (2 + x.size)) l := rfl
    refine ⟨r, ?_, ?_⟩
    · rw [e, show (g + 1) * 2 = g * 2 + 1 + 1 by omega]
      rw [List.take_succ_cons, total_cons, show a + (2 + x.size + total (l.take g)) = a + (2 + x.size) + total (l.take g) by omega]
      exact h1
    · rw [e, show (g + 1) * 2 + 1 = (g * 2 + 1) + 1 + 1 by omega]
      exact h2
/-- A device behind a crash. -/
structure Cd (said : List En) (all : List ByteArray) (C : Dsk) (L : Lg) (g : Nat) : Prop where
  firm : L.firm = 54 + total (all.take g)
  wq : Wq 152 0 128 54 ⟨#[]⟩ L C all g
  pz : Dal (Pz said L.firm) C
  cr : C = C.crash 0 fun _ => false
  sd : Said said all
  tb : ∀ e ∈ said, 54 ≤ e.t ∧ e.t < 18446744073709551616
/-- Crash. -/
theorem pf_crash {w : World} {B gd gl gp q : Nat} {av : Value} {said : List En} {all : List ByteArray} (h : Pf w B gd gl gp q av said all) (v : Value) (m : Nat) (kb : Nat → Bool) (hv : Kb w B v m kb) :
    Calls Tryz.prog 14 #[.pointer (some ⟨gd, 0, none⟩), v] w fun e w' => ∃ (J : Ids) (C : Dsk) (L : Lg) (g : Nat), e = .returned J.ptr ∧ Dk w' w.heap.size J C ∧ Cd said all C L g ∧ Out w w' (PF B w) := by
  obtain ⟨I, J, P, L, S, h1, h2, h3, ⟨rfl, rfl, rfl⟩, h5, h6, h7⟩ := h
  refine (crash_any h1.dsk v m kb hv).mono ?_
  rintro e w' ⟨J1, rfl, -, hd, ho, -⟩
  obtain ⟨g, g1, g2, g3⟩ := h5.wf.crashed m kb
  refine ⟨J1, _, L, g, rfl, hd, ⟨g2, g3, h5.pz.crash m kb, rfl, h5.sd, h5.tb⟩, ho.mono fun k hk hf => ?_⟩
  rcases hf with rfl | rfl | rfl | hf
  · exact ⟨h1.dsk.bg, _, _, h1.dsk.box, by unfold plT; simp⟩
  · obtain ⟨c, hc, _⟩ := h1.dsk.firm; exact ⟨h1.dsk.bf, _, _, hc, by unfold plT; simp⟩
  · obtain ⟨c, hc, _⟩ := h1.dsk.now; exact ⟨h1.dsk.bn, _, _, hc, by unfold plT; simp⟩
  · obtain ⟨b1, _, c, hc⟩ := owns_block h1.dsk.pend hf; exact ⟨b1, _, _, hc, by unfold plT; simp⟩
/-- A place in the log. -/
def plA (all : List ByteArray) (j : Nat) : Nat := 54 + total (all.take j)
/-- What the law reads of a page. -/
def PgL (w : World) (gd : Nat) (said : List En) (all : List ByteArray) (n i : Nat) (w2 : World) : Prop :=
  Calls Tryz.prog 16 #[.pointer (some ⟨gd, 0, none⟩), .int .i64 (i : Int)] w2 (fun e w' => e = .returned (.tuple #[.string ⟨#[]⟩, .int .u64 0, .int .i64 30]) ∧ Below w2.heap.size w2 w') ∨
  ∃ (p : Pg) (t : Nat), t < 18446744073709551616 ∧ Calls Tryz.prog 16 #[.pointer (some ⟨gd, 0, none⟩), .int .i64 (i : Int)] w2 (fun e w' => e = .returned (.tuple #[.string p.bytes, .int .u64 t, .int .i64 0]) ∧ Below w2.heap.size w2 w') ∧
    (∀ w3, Calls Tryz.prog 17 #[.string p.bytes] w3 fun e w' => e = .returned (.tuple #[.agg p.cs, .int .i64 0]) ∧ Below w3.heap.size w3 w') ∧
    ((t = 0 ∧ p = Pg.zero) ∨ (t ≠ 0 ∧ ∃ e ∈ said, e.i = i ∧ p = e.p ∧ t = e.t ∧ ∃ j, j < n ∧ t = plA all j))
theorem plA_le {all : List ByteArray} (h : total all ≤ 6912) (j : Nat) : plA all j ≤ 6966 := by
  have := total_drop all j
  unfold plA
  omega
theorem take_mono (all : List ByteArray) {a b : Nat} (h : a ≤ b) : total (all.take a) ≤ total (all.take b) := by
  have e : all.take b = all.take a ++ (all.take b).drop a := by
    conv => lhs; rw [← List.take_append_drop a (all.take b)]
    rw [List.take_take, Nat.min_eq_left h]
  rw [e, total_app]
  omega
/-- Open. -/
theorem pf_open {w : World} {B : Nat} {J : Ids} {C : Dsk} {L : Lg} {g : Nat} {said : List En} {all : List ByteArray} (hD : Dk w B J C) (hc : Cd said all C L g) (hB : B ≤ w.heap.size) :
    Calls Tryz.prog 15 #[J.ptr, .int .i64 0, .int .i64 128, .int .i64 54] w fun e w' => ∃ (n gl : Nat) (ea : Option Addr) (ec : Nat), n ≤ all.length ∧ e = .returned (.tuple #[.pointer (some ⟨gl, 0, none⟩), .slice ea n ec, .int .i64 0]) ∧
      w'.ownsRow B 61 2 (.slice ea n ec) n (enL 54 (all.take n)) ∧ Below B w w' ∧ total all ≤ 6912 ∧ ∀ i, i < 6 → ∀ w2, Below w'.heap.size w' w2 → PgL w' J.g said all n i w2 := by
  refine (open_pz (Q := Pz said L.firm) hD hc.wq hc.cr (fun j v hj => pz_log hj) hc.pz hB).mono ?_
  rintro e w' ⟨n, p', gl, ea, ec, S', k1, k2, rfl, hO, hd, hz, hdn, hl, hb⟩
  have tm : total all ≤ 6912 := by
    have a := hc.wq.ok.sz; have b := hc.wq.ok.sf; have c := hc.wq.ok.fe; have d := hc.wq.ok.rm
    rw [hc.wq.data, zapp, enc_size, hc.wq.ns, flr_54] at a
    rw [hc.wq.ns] at b
    rw [hc.wq.ns, hc.wq.nn, flr_54] at d
    omega
  refine ⟨n, gl, ea, ec, k2, rfl, hO, hb, tm, fun i hi w2 hb2 => ?_⟩
  have hd2 : Dk w2 B (J.with p') S' := hd.kept hb2
  have sz : ∀ k, k < 4 → (secsOf S' 128 i k).size = 64 := fun k hk => by
    obtain ⟨p, t, e1, e2⟩ := hz.now (128 + 4 * i + k) (by omega) i k hi hk rfl
    have : secsOf S' 128 i k = Fr.sec p.bytes (Fr.mk t) k := e1
    rw [this]
    exact Fr.sec_size (bytes_size _ (Dv.is_ok hc.sd e2)) (Fr.mk_size _) hk
  have hr := fread_any hd2 hdn hl i hi sz
  have eg : (J.with p').g = J.g := rfl
  rw [eg] at hr
  rcases Dv.pageAt hc.sd hc.tb hz hl hi with e | ⟨p, t, p1, p2, p3, p4⟩
  · rw [e] at hr
    exact .inl hr
  · rw [p3] at hr
    refine .inr ⟨p, t, p2, hr, fun w3 => ?_, ?_⟩
    · obtain ⟨g1, g2⟩ := good_bytes p p1
      have d1 : decErr p.bytes = 0 := by unfold decErr; exact if_pos g1
      have d2 : Pg.dec p.bytes = Pg.of p.bytes := by unfold Pg.dec; exact if_pos g1
      have := rdecode_long p.bytes w3 (bytes_size p p1)
      rw [d1, d2] at this
      unfold Pg.v at this
      rw [g2] at this
      exact this
    · rcases p4 with p4 | ⟨e, he, e1, e2, e3, e4⟩
      · exact .inl p4
      · have ht := hc.tb e he
        obtain ⟨-, -, g', g1, g2⟩ := hc.sd.ok e he
        have hlt : g' < g := by
          refine Classical.byContradiction fun hno => ?_
          have := take_mono all (show g ≤ g' by omega)
          have := hc.firm
          omega
        exact .inr ⟨by omega, e, he, e1, e2, e3, g', by omega, by rw [e3, g2]; rfl⟩
section
variable {v : World} {o : Oper} {a : Act} {K : Act → Prop}
theorem kq_run {v : World} {o : Oper} {a : Act} {K : Act → Prop} (u : Value) (hr : ∀ x : Kp v, (execOp a.eval o).run Tryz.prog x.1 = .ok (.value u) x.1) (h : K (a.put o.dst u)) : o.quiet Tryz.prog a (fun w' => ∃ x : Kp v, w' = x.1) K :=
  ⟨u, fun w ⟨x, hx⟩ => by subst hx; unfold Oper.quietAt; rw [hr x]; exact ⟨rfl, rfl⟩, h⟩
theorem kq_load {v : World} {o : Oper} {a : Act} {K : Act → Prop} (ty : TypeId) (y : Operand) (ho : o.op = .load ty y) (p : Addr) (u : Value) (hx : a.eval y = .pointer (some p))
    (hr : ∀ x : Kp v, (loadVar ty p).run Tryz.prog x.1 = .ok u x.1) (h : K (a.put o.dst u)) : o.quiet Tryz.prog a (fun w' => ∃ x : Kp v, w' = x.1) K := by
  refine kq_run _ (fun x => ?_) h
  unfold execOp
  simp only [ho, hx, Instr.loadAt, Instr.sureAddr, Sem.run_bind, Sem.run_pure, Result.andThen_ok, hr x]
theorem kq_eql {v : World} {o : Oper} {a : Act} {K : Act → Prop} (t t' : TypeId) (hg : Tryz.prog.eqGuardType Tryz.prog.depth t = false) (y z : Operand) (ho : o.op = .binOp .eql t y z t') (c d : Array Value) (u : Value) (hx : a.eval y = .agg c) (hy : a.eval z = .agg d)
    (hr : ∀ w : World, (binOp .eql t (.agg c) (.agg d)).run Tryz.prog w = .ok u w) (h : K (a.put o.dst u)) : o.quiet Tryz.prog a (fun w' => ∃ x : Kp v, w' = x.1) K := by
  refine kq_run _ (fun x => ?_) h
  unfold execOp
  have hh : (eqGuard .eql t y z (.agg c) (.agg d)).run Tryz.prog x.1 = .ok () x.1 := run_eqGuard_agg _ _ _ _ _ _ _ hg
  simp only [ho, hx, hy, Sem.run_bind, Sem.run_pure, Result.andThen_ok, hr x.1, hh]
/-- The page of a call in a row, the cells of one's own page. -/
theorem run_page_mid {w : World} {b off : Nat} {p : Pg} (hr : w.rangeAt b off p.cs.toList) : (loadVar 41 ⟨b, off, none⟩).run Tryz.prog w = .ok (.agg p.cs) w := by
  have := run_loadVar_mid (P := Tryz.prog) w b off 41 p.cs.toList _ hr Tryz.underlying41 rfl (by rw [show p.cs.toList.length = 16 from rfl]; kernel_rfl)
  simpa using this
theorem run_page_own {w : World} {b : Nat} {p : Pg} (hb : Bk w b 41 p.cs) : (loadVar 41 ⟨b, 0, none⟩).run Tryz.prog w = .ok (.agg p.cs) w :=
  run_page_mid fun i v hv => by
    rw [Nat.zero_add, hb.cell, ← Array.getElem?_toList]; exact hv
end
/-- A call's cells in a row. -/
theorem cp_in_row {w : World} {g at_ : Nat} {c : Cp} (h : w.rangeAt g at_ c.cs.toList) : w.cell? ⟨g, at_ + 1, none⟩ = some (.int .i64 c.id) ∧ w.rangeAt g (at_ + 2) c.p.cs.toList :=
  ⟨h 1 _ rfl, fun i v hv => by
    have hi : i < 16 := (List.getElem?_eq_some_iff.1 hv).1
    have := h (2 + i) v (by
      show (Value.int .i64 c.k :: .int .i64 c.id :: (c.p.cs.toList ++ [.string c.v]))[2 + i]? = _
      rw [Nat.add_comm, List.getElem?_cons_succ, List.getElem?_cons_succ, List.getElem?_append_left (by show i < 16; exact hi)]
      exact hv)
    rw [show at_ + 2 + i = at_ + (2 + i) by omega]
    exact this⟩
theorem run_int_at {w : World} {b off : Nat} {x : Int} (h : w.cell? ⟨b, off, none⟩ = some (.int .i64 x)) : (loadVar 3 ⟨b, off, none⟩).run Tryz.prog w = .ok (.int .i64 x) w := by
  simp [go_sem, h]
theorem wp_pneq {ops : Array Oper} {rest : List Oper} {o : Oper} {a : Act} {w : World} {Q : Exit → Act → World → Prop} (hgd : o.guard = none) (y z : Operand) (ho : o.op = .binOp .neq 41 y z 41) (p q : Pg) (u : Bool) (hu : (!(pgB p q)) = u) (hx : a.eval y = .agg p.cs) (hy : a.eval z = .agg q.cs)
    (hK : wpList Tryz.prog ops Q rest (a.put o.dst (.bool u)) w) : wpList Tryz.prog ops Q (o :: rest) a w := by
  refine wpList_plain hgd fun _ hK2 => ?_
  unfold Oper.wp execOp
  have hh : (eqGuard .neq 41 y z (.agg p.cs) (.agg q.cs)).run Tryz.prog w = .ok () w := run_eqGuard_agg _ _ _ _ _ _ _ Tryz.eqGuardType41
  simp only [ho, hx, hy, Sem.run_bind, Sem.run_pure, Result.andThen_ok, page_neq, hh, hu]
  exact hK2 _ _ hK
theorem kq_peql {v : World} {o : Oper} {a : Act} {K : Act → Prop} (y z : Operand) (ho : o.op = .binOp .eql 41 y z 41) (p q : Pg) (u : Bool) (hu : pgB p q = u) (hx : a.eval y = .agg p.cs) (hy : a.eval z = .agg q.cs)
    (h : K (a.put o.dst (.bool u))) : o.quiet Tryz.prog a (fun w' => ∃ x : Kp v, w' = x.1) K :=
  kq_eql 41 41 Tryz.eqGuardType41 y z ho p.cs q.cs (.bool u) hx hy (fun w => by rw [page_eql, hu]) h
/-- The cells of a row of one's own, one by one. -/
theorem row_at {w : World} {B : Nat} {e : TypeId} {size : Nat} {a : Option Addr} {n c : Nat} {xs : List Value} (h : w.ownsRow B e size (.slice a n c) n xs) (hn : 0 < n) : ∃ g, a = some ⟨g, 0, none⟩ ∧ ∀ j u, xs[j]? = some u → w.cell? ⟨g, j, none⟩ = some u := by
  obtain ⟨g, cap, hv, h1, h2⟩ := World.ownsRow.form h hn
  obtain rfl : a = some ⟨g, 0, none⟩ := by simpa using congrArg (fun v => match v with | Value.slice a _ _ => a | _ => none) hv
  refine ⟨g, rfl, fun j u hu => ?_⟩
  have := World.ownsRow.cells h (g := g) rfl j u hu
  rw [Addr.add_lit, Nat.zero_add] at this
  exact this
theorem owns_on {w w' w'' : World} {B0 B : Nat} {e : TypeId} {size : Nat} {v : Value} {n : Nat} {xs : List Value} (h : w.ownsRow B0 e size v n xs) (ho : Out w w' (PF B w)) (ht : ¬ plT e) (hb : Below w.heap.size w' w'') : w''.ownsRow B0 e size v n xs :=
  owns_of_block h fun k hk => (hb.block k (owns_block h hk).2.1).trans (by
    obtain ⟨h1, h2, c, hc⟩ := owns_block h hk
    exact (bk_pf ho hc ht).trans hc.symm)
end Go.Proofs.YtgafajbdmegfgaaGreat
namespace Go.Proofs.YtgafajbdmegfgaaGreat
open Go.RowKit

theorem load_cpp_if {ops : Array Oper} {rest : List Oper} {o : Oper} {a : Act} {w : World} {Q : Exit → Act → World → Prop} (x : Operand) (ho : o.op = .load 41 x) (hw : Region.wanted o (yielded ops a.tmps) = true) (b : Nat) (s : Cp) (hx : a.eval x = .pointer (some ⟨b, 2, none⟩)) (hb : Bk w b 43 s.cs)
    (h : wpList Tryz.prog ops Q rest (a.put o.dst (.agg s.p.cs)) w) : wpList Tryz.prog ops Q (o :: rest) a w := by
  refine wpList_step fun K hK => ?_
  rw [if_pos hw]
  have hr : w.rangeAt b 2 s.p.cs.toList := fun i v hv => by
    rw [hb.cell]
    have hi : i < 16 := (List.getElem?_eq_some_iff.1 hv).1
    have : s.cs[2 + i]? = s.p.cs.toList[i]? := by
      rw [← Array.getElem?_toList]
      show (Value.int .i64 s.k :: .int .i64 s.id :: (s.p.cs.toList ++ [.string s.v]))[2 + i]? = _
      rw [Nat.add_comm, List.getElem?_cons_succ, List.getElem?_cons_succ, List.getElem?_append_left (by show i < 16; exact hi)]
    rw [this]; exact hv
  have := run_loadVar_mid (P := Tryz.prog) w b 2 41 s.p.cs.toList _ hr Tryz.underlying41 rfl (by rw [show s.p.cs.toList.length = 16 from rfl]; kernel_rfl)
  unfold Oper.wp execOp
  simp only [ho, hx, Instr.loadAt, Instr.sureAddr, Sem.run_bind, Sem.run_pure, Result.andThen_ok, this]
  exact hK _ _ (by simpa using h)
set_option maxRecDepth 100000 in
set_option maxHeartbeats 16000000 in
theorem walk_PoolLogFirst (v : Value) (cl : List Cp) (fuel : Int) (kv : Value) (mk : Nat) (kb : Nat → Bool) (w : World) (hq : IsCps w v cl) (hf1 : -9223372036854775808 ≤ fuel) (hf2 : fuel ≤ 9223372036854775807) (hkb : Kb w w.heap.size kv mk kb) :
    Calls Tryz.prog 3 #[v, .int .i64 fuel, kv] w fun e w' => e = .returned (.bool true) ∧ Below w.heap.size w w' := by
  have CAT := Lib.hid hq.at_; have CBD := Lib.hid hq.bd
  obtain ⟨aa, ac, rfl, -⟩ := CAT.out
  have hl0 := hq.len
  obtain ⟨len, hlen⟩ : ∃ len, len = cl.length := ⟨_, rfl⟩
  have HLN := Lib.hid hlen
  rw [← hlen] at hl0 ⊢
  have LM := Lib.hid (show len ≤ 9223372036854775807 by simp only [maxLen] at hl0; omega)
  have KB := Lib.hid hkb
  have FU := Lib.hid (And.intro hf1 hf2)
  obtain ⟨ka, kc, rfl⟩ : ∃ a c, kv = .slice a mk c := by obtain ⟨a, c, e, -⟩ := hkb; exact ⟨a, c, e⟩
  clear hq hlen hl0 hkb hf1 hf2
  have CA := Lib.hid (awake12_any w)
  go_enter Tryz.func3, Tryz.ntmps3
  go_wp2_with fail
  refine CA.out.mono ?_
  rintro e w1 ⟨rfl, hb⟩
  have B1 := Lib.hid hb; have SB := Lib.hid hb.size
  clear hb CA
  as_aux_lemma =>
    have CN := new_good 152 w1 (by omega) (by omega)
    rw [show ((152 : Nat) : Int) = 152 from rfl] at CN
    have CN := Lib.hid CN
    go_wp2_with fail
    refine CN.out.mono ?_
    rintro e w2 ⟨I, rfl, hd, hb⟩
    have D2 := Lib.hid hd; have B2 := Lib.hid hb
    have CC := create_good 152 0 128 hd (by omega) (by omega) (by omega) hb.size
    rw [show ((0 : Nat) : Int) = 0 from rfl, show ((128 : Nat) : Int) = 128 from rfl] at CC
    have CC := Lib.hid CC
    clear hd hb CN
    obtain ⟨gd, df, dn, dfc, dnc, dp⟩ := I
    unfold Ids.ptr at *
    dsimp only at *
    go_wp2_with fail
    refine CC.out.mono ?_
    rintro e w3 ⟨gl, p', rfl, hw, hb⟩
    have B3 := Lib.hid (B2.out.trans hb)
    have W3 := Lib.hid hw
    have CP := pnew_good hw 128 6 4 (by omega) (by omega) (by omega) (by omega) (by simp [Dsk.start, blanks]) (Nat.le_trans B2.out.size hb.size)
    unfold Ids.ptr Wd.ptr Ids.with at CP
    dsimp only at CP
    rw [show ((128 : Nat) : Int) = 128 from rfl, show ((6 : Nat) : Int) = 6 from rfl] at CP
    rw [show ((4 : Nat) : Int) = 4 from rfl] at CP
    have CP := Lib.hid CP
    clear hw hb CC B2 D2
    go_wp2_with fail
    refine CP.out.mono ?_
    rintro e w4 ⟨gp, rfl, hq, hb⟩
    have W4 := Lib.hid (W3.out.kept hb)
    have Q4 := Lib.hid hq
    have B4 := Lib.hid (below_then B3.out hb B3.out.size)
    have CF := Lib.hid (fuel_any W4.out.dsk (max fuel 0) (by have := FU.out.2; omega))
    clear hq hb CP W3 B3
    as_aux_lemma =>
      unfold Ids.ptr Ids.with at CF
      dsimp only at CF
      go_wp2_with fail
      refine CF.out.mono ?_
      rintro e w5 ⟨rfl, hd, ho⟩
      have hf0 : (if max fuel 0 < 0 then -1 else max fuel 0) = max fuel 0 := if_neg (by omega)
      rw [hf0] at hd
      have P5 := pf_start (I := ⟨gd, df, dn, dfc, dnc, dp⟩) (q' := p') (max fuel 0) W4.out Q4.out B4.out.size hd ho
      have PW := Lib.hid (show Pw w1 w5 w1.heap.size gd gl gp [] [] (.slice none 0 0) (.slice none 0 0) from ⟨P5, World.ownsRow_nil _ _ _ _, World.ownsRow_nil _ _ _ _, fun x hx => (by cases hx), B4.out.trans (ho.below B4.out.size fun k hk => by
        rcases hk with rfl | rfl | rfl | hk
        · exact W4.out.dsk.bg
        · exact W4.out.dsk.bf
        · exact W4.out.dsk.bn
        · exact (owns_block W4.out.dsk.pend hk).1), Nat.le_refl _⟩)
      clear CF hd ho hf0 P5 W4 Q4 B4
      as_aux_lemma =>
        go_wp2_with fail
        go_loopw [13, 14, 59] (fun s a i wr => ∃ (k : Nat) (ls : List (Cp × Nat)) (all : List ByteArray), k ≤ len ∧ i = .int .i64 k ∧ Pw w1 wr w1.heap.size gd gl gp ls all s a) (fun _ _ i _ => len - (intOf i).toNat)
        case atStart => exact ⟨0, [], [], Nat.zero_le _, rfl, PW.out⟩
        case round =>
          obtain ⟨k, ls, all, hk, rfl, hpw⟩ := hrel
          have PR := Lib.hid hpw
          obtain ⟨sa, sc, hse⟩ := tx_slice hpw.cr
          obtain ⟨aa2, ac2, hae⟩ := tx_slice hpw.ar
          rw [List.length_map] at hse
          subst hse hae
          clear hpw PW
          by_cases hlt : k < len
          · have HLT := Lib.hid hlt
            have KI := Lib.hid (show k < 9223372036854775807 by have := LM.out; omega)
            have hkl : k < cl.length := by rw [← HLN.out]; exact hlt
            obtain ⟨cc, hcc⟩ : ∃ cc, cc = cl[k] := ⟨_, rfl⟩
            have OK := Lib.hid (show CpOk cc from CBD.out cc (by rw [hcc]; exact List.getElem_mem hkl))
            obtain ⟨a', c', e1, hat⟩ := CAT.out.below ((B1.out.trans (PR.out.b.mono SB.out)))
            obtain ⟨b1, off, e2, hb1, hra⟩ := hat (by omega)
            rw [← HLN.out] at e1
            obtain ⟨rfl, rfl⟩ : aa = some ⟨b1, off, none⟩ ∧ ac = c' := by rw [e2] at e1; simpa using e1
            have RK := Lib.hid (hra k cc (by rw [hcc]; exact List.getElem?_eq_getElem hkl))
            have P1 := Lib.hid (PR.out.alloc (.cells cc.cs 43))
            have K1 := Lib.hid (Bk.new wr 43 cc.cs)
            have GS := Lib.hid (show ∀ k, (Value.slice sa ls.length sc).ownBlock = some k → k < wr.heap.size from fun k hk => (owns_block PR.out.cr hk).2.1)
            have hkb : k < 9223372036854775807 := KI.out
            clear e1 hat e2 hb1 hra hcc hkl PR
            as_aux_lemma =>
              go_upto_region 14 with (first | (refine load_cp_off rfl _ rfl b1 off k cc rfl RK.out ?_) | (refine store_cp_new rfl _ _ rfl cc rfl rfl ?_))
              generalize wr.alloc (.cells cc.cs 43) = w6 at *
              obtain ⟨G, hG⟩ : ∃ G, G = wr.heap.size := ⟨_, rfl⟩
              rw [← hG] at K1 GS ⊢
              clear hG RK
              obtain ⟨x0, x1, x18⟩ := cp_cells K1.out
              by_cases k0 : cc.k = 0
              · have e0 : (cc.k == 0) = true := by simp [k0]
                have CG := Lib.hid (pf_get P1.out.pf cc.id)
                clear k0
                as_aux_lemma =>
                  go_wp2_with fail
                  refine CG.out.mono ?_
                  rintro e w7 ⟨x, er, rfl, hp, ho⟩
                  have P2 := Lib.hid (P1.out.out_pf ho hp)
                  clear hp ho CG P1 K1 x0 x1 x18
                  go_wp2
                  go_roundw
                  case rel => exact ⟨k + 1, ls, all, by have := HLT.out; omega, by go_num, P2.out⟩
                  case measure => have := HLT.out; simp [intOf]; omega
              have e0 : (cc.k == 0) = false := by simp [k0]
              by_cases k1 : cc.k = 1
              · have e1 : (cc.k == 1) = true := by simp [k1]
                have CA := Lib.hid (pf_append P1.out.pf cc.v OK.out.len P1.out.ar)
                clear k0 k1
                as_aux_lemma =>
                  go_wp2_with fail
                  refine CA.out.mono ?_
                  rintro e w7 ⟨ho, ⟨er, rfl, hne, hp⟩ | ⟨t, rfl, hp, hg, hlt2⟩⟩
                  · have P2 := Lib.hid (P1.out.out_ap ho hp)
                    have hneb : (er == 0) = false := by simp [hne]
                    have K2 := Lib.hid (show Bk w7 G 43 cc.cs from ho.bk K1.out fun ⟨_, _, t', cs', hc', ht'⟩ => Bk.ne_ K1.out hc' (by rcases ht' with rfl | rfl | rfl <;> decide) rfl)
                    clear hp ho CA P1 K1 x0 x1 x18 hne
                    go_wp2
                    go_roundw
                    case rel => exact ⟨k + 1, ls, all, by have := HLT.out; omega, by go_num, P2.out⟩
                    case measure => have := HLT.out; simp [intOf]; omega
                  · have P2 := Lib.hid (P1.out.out_ap ho hp)
                    have HG := Lib.hid hg; have HT := Lib.hid hlt2
                    have K2 := Lib.hid (show Bk w7 G 43 cc.cs from ho.bk K1.out fun ⟨_, _, t', cs', hc', ht'⟩ => Bk.ne_ K1.out hc' (by rcases ht' with rfl | rfl | rfl <;> decide) rfl)
                    clear hp ho CA P1 K1 x0 x1 x18 hg hlt2
                    obtain ⟨x0, x1, x18⟩ := cp_cells K2.out
                    by_cases hi0 : 0 ≤ cc.id
                    · have hi0d : decide (0 ≤ cc.id) = true := decide_eq_true hi0
                      by_cases hi6 : cc.id < 6
                      · have hi6d : decide (cc.id < 6) = true := decide_eq_true hi6
                        have CR := rright_any cc.p w7
                        unfold Pg.v at CR
                        have CR := Lib.hid CR
                        have ID := Lib.hid (And.intro hi0 hi6)
                        as_aux_lemma =>
                          go_wp2_with (refine load_cpp_if _ rfl (by first | rfl | kernel_rfl) G cc rfl K2.out ?_)
                          refine CR.out.mono ?_
                          rintro e w8 ⟨rfl, hb⟩
                          have P3 := Lib.hid (P2.out.kept hb)
                          have K3 := Lib.hid (K2.out.kept hb)
                          clear hb CR P2 K2 x0 x1 x18 hi0 hi6 hi0d hi6d
                          by_cases hr : cc.p.ok
                          · rw [decide_eq_true hr]
                            have HR := Lib.hid hr
                            clear hr
                            obtain ⟨i0, hi, hz0, hz1, hz2⟩ := info_parts info_cp
                            have P4 := Lib.hid (P3.out.alloc (.cells cc.cs 43))
                            have K4 := Lib.hid (K3.out.alloc (.cells cc.cs 43))
                            have R4 := Lib.hid (show (w8.alloc (.cells cc.cs 43)).ownsRow w1.heap.size 43 19 (.slice sa ls.length sc) ls.length (cpL (ls.map (·.1))) from by
                              have := P4.out.cr
                              unfold CRow at this
                              rwa [List.length_map] at this)
                            have LF := Lib.hid (show ls.length ≤ 6912 from P3.out.few)
                            have HB4 := Lib.hid P4.out.pf.hB
                            as_aux_lemma =>
                              go_upto_region 22 with (first
                                | (refine load_cp rfl _ rfl G cc rfl K3.out ?_)
                                | (refine slice1_cp rfl _ rfl cc rfl ?_)
                                | (at_builtin; refine wpList_append_lies (w8.alloc (.cells cc.cs 43)) rfl _ _ 22 rfl w1.heap.size 43 i0 (.agg Cp.zero.cs) 19 208 Tryz.underlying22 hi hz0 hz1 hz2 rfl (by decide) (.slice sa ls.length sc) ls.length (cpL (ls.map (·.1))) rfl R4.out ⟨w8.heap.size, 0, none⟩ 1 1 cc.cs.toList rfl rfl ?qa ?qb (by omega) ?qc ?qd HB4.out _ rfl ?_))
                              case qa =>
                                intro q x hx
                                have hn := (Bk.new w8 43 cc.cs).cell q
                                rw [Addr.add_lit, Nat.zero_add]
                                refine Eq.trans hn ?_
                                simpa using hx
                              case qb => simp [Cp.cs, Pg.cs, Value.oneCell']
                              case qc => have := LF.out; unfold maxLen; omega
                              case qd => have := LF.out; omega
                              intro g2 cap2 w9 hown hgrow hlies hlt9
                              obtain ⟨pf9, cr9, ar9, b9⟩ := P4.out.saidC hown hgrow
                              have F9 := Lib.hid pf9; have C9 := Lib.hid cr9; have A9 := Lib.hid ar9; have BL9 := Lib.hid b9
                              have K9 := Lib.hid (K4.out.grown hgrow fun e => Nat.lt_irrefl _ (GS.out _ e.symm))
                              have OKS := Lib.hid P3.out.ok
                              clear pf9 cr9 ar9 b9 hown hgrow hlies hlt9 P3 P4 K3 K4 R4 HB4 GS hi hz0 hz1 hz2 i0
                              obtain ⟨i1, hi, hz0, hz1, hz2⟩ := info_parts Tryz.info3
                              have FA := Lib.hid (F9.out.alloc (.cells #[.int .i64 (t : Int)] 3))
                              have RA := Lib.hid (ow_kept A9.out ((Below.refl w9.heap.size w9).alloc (Nat.le_refl _) (.cells #[.int .i64 (t : Int)] 3)))
                              have CA := Lib.hid (ow_kept C9.out ((Below.refl w9.heap.size w9).alloc (Nat.le_refl _) (.cells #[.int .i64 (t : Int)] 3)))
                              have KA := Lib.hid (K9.out.alloc (.cells #[.int .i64 (t : Int)] 3))
                              have BA := Lib.hid (BL9.out.alloc BL9.out.size (.cells #[.int .i64 (t : Int)] 3))
                              have HBA := Lib.hid FA.out.hB
                              clear F9 A9 C9 K9 BL9
                              as_aux_lemma =>
                                go_upto_region 23 with (at_builtin; refine wpList_append_lies (w9.alloc (.cells #[.int .i64 (t : Int)] 3)) rfl _ _ 36 rfl w1.heap.size 3 i1 (.int .i64 0) 1 8 Tryz.underlying36 hi hz0 hz1 hz2 rfl (by decide) (.slice aa2 ls.length ac2) ls.length (atL ls) rfl RA.out ⟨w9.heap.size, 0, none⟩ 1 1 [.int .i64 (t : Int)] rfl rfl ?qa ?qb (by omega) ?qc ?qd HBA.out _ rfl ?_)
                                case qa =>
                                  intro q x hx
                                  have hn := (Bk.new w9 3 #[.int .i64 (t : Int)]).cell q
                                  rw [Addr.add_lit, Nat.zero_add]
                                  refine Eq.trans hn ?_
                                  simpa using hx
                                case qb => simp [Value.oneCell']
                                case qc => have := LF.out; unfold maxLen; omega
                                case qd => have := LF.out; omega
                                intro g3 cap3 wA hown hgrow hlies hltA
                                have FB := Lib.hid (FA.out.grownI RA.out hgrow (av' := .slice (some ⟨g3, 0, none⟩) (ls.length + 1) cap3) (fun k hk => by
                                  have ek : g3 = k := by simpa [Value.ownBlock] using hk
                                  subst ek
                                  rcases hlies with h | h
                                  · exact .inl h
                                  · right; rw [h]; simp))
                                have hrI : ∀ k, (Value.slice aa2 ls.length ac2).ownBlock = some k → ∃ cs, Bk (w9.alloc (.cells #[.int .i64 (t : Int)] 3)) k 3 cs := fun k hk => by
                                  obtain ⟨-, -, c, hc⟩ := owns_block RA.out hk
                                  exact ⟨c, hc⟩
                                have CB := Lib.hid (own_grown CA.out hgrow hrI (by decide))
                                have KB2 := Lib.hid (KA.out.grown hgrow fun e => by
                                  obtain ⟨c, hc⟩ := hrI _ e.symm
                                  exact Bk.ne_ KA.out hc (by decide) rfl)
                                have RB := Lib.hid hown
                                have BB := Lib.hid (bl_grow BA.out hgrow (fun k hk => (owns_block RA.out hk).1) BA.out.size)
                                clear hown hgrow hlies hltA hrI FA RA CA KA BA HBA hi hz0 hz1 hz2 i1
                                have FS := Lib.hid (FB.out.say (en (cc, t)) HR.out (by show cc.id.toNat < 6; have := ID.out; omega) HG.out HT.out)
                                have CP := pf_put FS.out (e := en (cc, t)) (by simp) (by have := LF.out; omega)
                                have eid : ((en (cc, t)).i : Int) = cc.id := by show ((cc.id.toNat : Nat) : Int) = cc.id; have := ID.out; omega
                                rw [eid] at CP
                                have CP := Lib.hid (show Calls Tryz.prog 12 #[.pointer (some ⟨gp, 0, none⟩), .int .i64 cc.id, .agg cc.p.cs, .int .i64 (t : Int)] wA fun e' w' => ∃ er : Int, e' = .returned (.int .i64 er) ∧ (er = 0 ∨ er = 20) ∧ Pf w' w1.heap.size gd gl gp (4102 * ls.length + 4102) (.slice (some ⟨g3, 0, none⟩) (ls.length + 1) cap3) (ls.map en ++ [en (cc, t)]) (all ++ [cc.v]) ∧ Out wA w' (PF w1.heap.size wA) from CP)
                                obtain ⟨x0, x1, x18⟩ := cp_cells KB2.out
                                clear eid FB FS
                                as_aux_lemma =>
                                  go_wp2_with (refine load_cpp rfl _ rfl G cc rfl KB2.out ?_)
                                  refine CP.out.mono ?_
                                  rintro e wB ⟨er, rfl, her, hp, ho⟩
                                  have PN := Lib.hid (show Pw w1 wB w1.heap.size gd gl gp (ls ++ [(cc, t)]) (all ++ [cc.v]) (.slice (some ⟨g2, 0, none⟩) (ls.length + 1) cap2) (.slice (some ⟨g3, 0, none⟩) (ls.length + 1) cap3) from by
                                    refine ⟨?_, ?_, ?_, fun x hx => ?_, BB.out.trans (ho.below (by have := BB.out.size; exact this) fun k hk => hk.1), Nat.le_refl _⟩
                                    · rw [List.length_append, List.map_append]
                                      exact hp
                                    · have := own_pf CB.out ho (by unfold plT; decide)
                                      rw [List.map_append]
                                      exact this
                                    · have := own_pf RB.out ho (by unfold plT; decide)
                                      rw [List.length_append]
                                      unfold atL
                                      rw [List.map_append]
                                      exact this
                                    · rcases List.mem_append.1 hx with hx | hx
                                      · exact OKS.out x hx
                                      · rw [List.mem_singleton.1 hx]
                                        exact ⟨OK.out, ID.out.1, ID.out.2, HR.out⟩)
                                  clear hp ho CP CB KB2 RB BB x0 x1 x18
                                  rcases her with rfl | rfl
                                  · go_wp2
                                    go_roundw
                                    case rel => exact ⟨k + 1, _, _, by have := HLT.out; omega, by go_num, PN.out⟩
                                    case measure => have := HLT.out; simp [intOf]; omega
                                  · go_wp2
                                    go_roundw
                                    case rel => exact ⟨k + 1, _, _, by have := HLT.out; omega, by go_num, PN.out⟩
                                    case measure => have := HLT.out; simp [intOf]; omega
                          · rw [decide_eq_false hr]
                            clear hr
                            go_wp2
                            go_roundw
                            case rel => exact ⟨k + 1, ls, all ++ [cc.v], by have := HLT.out; omega, by go_num, P3.out⟩
                            case measure => have := HLT.out; simp [intOf]; omega
                      · have hi6d : decide (cc.id < 6) = false := decide_eq_false hi6
                        clear hi6 hi0
                        go_wp2
                        go_roundw
                        case rel => exact ⟨k + 1, ls, all ++ [cc.v], by have := HLT.out; omega, by go_num, P2.out⟩
                        case measure => have := HLT.out; simp [intOf]; omega
                    · have hi0d : decide (0 ≤ cc.id) = false := decide_eq_false hi0
                      clear hi0
                      go_wp2
                      go_roundw
                      case rel => exact ⟨k + 1, ls, all ++ [cc.v], by have := HLT.out; omega, by go_num, P2.out⟩
                      case measure => have := HLT.out; simp [intOf]; omega
              · have e1 : (cc.k == 1) = false := by simp [k1]
                have CG := Lib.hid (pf_flush P1.out.pf (by have := P1.out.few; omega))
                clear k0 k1
                as_aux_lemma =>
                  go_wp2_with fail
                  refine CG.out.mono ?_
                  rintro e w7 ⟨er, rfl, hp, ho⟩
                  have P2 := Lib.hid (P1.out.out_pf ho hp)
                  clear hp ho CG P1 K1 x0 x1 x18
                  go_wp2
                  go_roundw
                  case rel => exact ⟨k + 1, ls, all, by have := HLT.out; omega, by go_num, P2.out⟩
                  case measure => have := HLT.out; simp [intOf]; omega
          · have hnb : ¬ (k : Int) < (len : Int) := by omega
            have CC := Lib.hid (pf_crash PR.out.pf (.slice ka mk kc) mk kb (by
              obtain ⟨a9, c9, e9, h9⟩ := KB.out.kept (B1.out.trans (PR.out.b.mono SB.out)) (Nat.le_refl _)
              refine ⟨a9, c9, e9, fun hm => ?_⟩
              obtain ⟨b9, o9, e1, l1, hc⟩ := h9 hm
              exact ⟨b9, o9, e1, Nat.lt_of_lt_of_le l1 SB.out, hc⟩))
            have CR := Lib.hid (show wr.ownsRow w1.heap.size 43 19 (.slice sa ls.length sc) ls.length (cpL (ls.map (·.1))) from by
              have := PR.out.cr
              unfold CRow at this
              rwa [List.length_map] at this)
            have AR := Lib.hid PR.out.ar; have LOK := Lib.hid PR.out.ok; have LF := Lib.hid PR.out.few
            have BW := Lib.hid (B1.out.trans (PR.out.b.mono SB.out))
            have BF := Lib.hid (show w.heap.size ≤ w1.heap.size from SB.out)
            have HB := Lib.hid PR.out.pf.hB
            clear hlt hk PR KB FU HLN CAT CBD B1 LM
            as_aux_lemma =>
              go_wp2_with fail
              refine CC.out.mono ?_
              rintro e wC ⟨J, C, L, g, rfl, hd, hcd, ho⟩
              have CO := Lib.hid (pf_open hd hcd ho.size)
              have HO := Lib.hid ho
              unfold Ids.ptr at CO ⊢
              clear hd hcd ho CC
              as_aux_lemma =>
                go_wp2_with fail
                refine CO.out.mono ?_
                rintro e wO ⟨n, gl2, ea, ec, hn, rfl, hO, hb, htm, hpg⟩
                have CR2 := Lib.hid (owns_on CR.out HO.out (by unfold plT; decide) hb)
                have AR2 := Lib.hid (owns_on AR.out HO.out (by unfold plT; decide) hb)
                have ER := Lib.hid hO; have TM := Lib.hid htm; have PG := Lib.hid hpg; have NA := Lib.hid hn
                have BO := Lib.hid (show Below w.heap.size w wO from (BW.out.trans (HO.out.below (Nat.le_trans BF.out HB.out) fun k hk => Nat.le_trans BF.out hk.1)).trans (hb.mono (Nat.le_trans BF.out HB.out)))
                have LN := Lib.hid (show n ≤ 6912 from by
                  have h1 : ∀ l : List ByteArray, l.length ≤ total l := fun l => by
                    induction l with
                    | nil => exact Nat.zero_le _
                    | cons x l ih => rw [total_cons, List.length_cons]; omega
                  have := h1 all
                  omega)
                clear hO hb htm hpg hn CO CR AR HO BW BF HB
                as_aux_lemma =>
                  go_wp2_with fail
                  go_loopw [132] (fun x wr => ∃ i : Nat, i ≤ 6 ∧ x = .int .i64 i ∧ Below wO.heap.size wO wr) (fun x _ => 6 - (intOf x).toNat)
                  case atStart => exact ⟨0, Nat.zero_le _, rfl, Below.refl _ _⟩
                  case round =>
                    obtain ⟨i, hi, rfl, hb⟩ := hrel
                    have BR := Lib.hid hb
                    clear hb
                    by_cases hlt : i < 6
                    · have HLT := Lib.hid hlt
                      have hi64 : i < 9223372036854775807 := by omega
                      have hi6 : (i : Int) < 6 := by omega
                      rcases PG.out i hlt _ BR.out with hr | ⟨p, t, ht, hr, hdc, hcs⟩
                      · have CT := Lib.hid hr
                        clear hr hi hlt
                        go_wp2_with fail
                        refine CT.out.mono ?_
                        rintro e w2 ⟨rfl, hb⟩
                        have B2 := Lib.hid (below_then BR.out hb BR.out.size)
                        clear hb CT
                        go_wp2
                        go_roundw
                        case rel => exact ⟨i + 1, by have := HLT.out; omega, by go_num, B2.out⟩
                        case measure => have := HLT.out; simp [intOf]; omega
                      · have CT := Lib.hid hr; have CD := Lib.hid hdc; have CS := Lib.hid hcs; have HT := Lib.hid ht
                        obtain ⟨body, hbody⟩ : ∃ body, body = p.bytes := ⟨_, rfl⟩
                        rw [← hbody] at CT CD
                        clear hr hdc hcs hi hlt hbody
                        as_aux_lemma =>
                          go_wp2_with fail
                          refine CT.out.mono ?_
                          rintro e w2 ⟨rfl, hb⟩
                          have B2 := Lib.hid (below_then BR.out hb BR.out.size)
                          clear hb CT BR
                          go_wp2_with fail
                          refine (CD.out _).mono ?_
                          rintro e w3 ⟨rfl, hb⟩
                          have B3 := Lib.hid (below_then B2.out hb B2.out.size)
                          have B4 := Lib.hid (B3.out.alloc B3.out.size (.cells p.cs 41))
                          have X4 := Lib.hid (Bk.new w3 41 p.cs)
                          clear hb CD B2
                          go_upto_region 37 with (first | (refine store_page_new rfl _ _ rfl p rfl rfl ?_))
                          generalize w3.alloc (.cells p.cs 41) = w4 at *
                          obtain ⟨G, hG⟩ : ∃ G, G = w3.heap.size := ⟨_, rfl⟩
                          rw [← hG] at X4 ⊢
                          clear hG B3
                          rcases CS.out with ⟨rfl, rfl⟩ | ⟨h0, e, he, e1, e2, e3, j, hj, ej⟩
                          · have pz : (!(pgB Pg.zero Pg.zero)) = false := by rw [pgB_self]; rfl
                            go_wp2_with (first | (refine load_page rfl _ rfl G Pg.zero rfl X4.out ?_) | (refine pbuild0 rfl rfl ?_) | (refine wp_pneq rfl _ _ rfl Pg.zero Pg.zero false pz rfl rfl ?_))
                            go_roundw
                            case rel => exact ⟨i + 1, by have := HLT.out; omega, by go_num, B4.out⟩
                            case measure => have := HLT.out; simp [intOf]; omega
                          · obtain ⟨Jx, hJ, hJe⟩ := List.mem_iff_getElem.1 he
                            rw [List.length_map] at hJ
                            rw [List.getElem_map] at hJe
                            obtain ⟨⟨c0, t0⟩, hc0⟩ : ∃ x, x = ls[Jx] := ⟨_, rfl⟩
                            rw [← hc0] at hJe
                            subst hJe
                            have q1 : c0.id = (i : Int) := by
                              have : c0.id.toNat = i := e1
                              have hk := (LOK.out (c0, t0) (by rw [hc0]; exact List.getElem_mem hJ)).2.1
                              have : 0 ≤ c0.id := hk
                              omega
                            have q2 : c0.p = p := e2.symm
                            have q3 : t0 = t := e3.symm
                            have JX := Lib.hid (show ls[Jx]? = some (c0, t0) ∧ c0.id = (i : Int) ∧ c0.p = p ∧ t0 = t from ⟨by rw [hc0]; exact List.getElem?_eq_getElem hJ, q1, q2, q3⟩)
                            have JY := Lib.hid (show j < n ∧ t = plA all j from ⟨hj, ej⟩)
                            have JL := Lib.hid (show Jx < ls.length from hJ)
                            have h0b : (t == 0) = false := by simp [h0]
                            have T64 := Lib.hid (show t ≤ 6966 from by rw [ej]; exact plA_le TM.out j)
                            clear h0 he e1 e2 e3 hj ej hJ hc0 q1 q2 q3 CS HT
                            as_aux_lemma =>
                              go_wp2_with fail
                              go_loopw [29, 162] (fun fd x wr => ∃ (k : Nat) (b : Bool), k ≤ ls.length ∧ fd = .bool b ∧ x = .int .i64 k ∧ (Jx < k → b = true) ∧ Below w4.heap.size w4 wr) (fun _ x _ => ls.length - (intOf x).toNat)
                              case atStart => exact ⟨0, false, Nat.zero_le _, rfl, rfl, fun h => absurd h (Nat.not_lt_zero _), Below.refl _ _⟩
                              case round =>
                                obtain ⟨k, b, hk, rfl, rfl, hbk, hb⟩ := hrel
                                have B5 := Lib.hid hb; have BK := Lib.hid hbk
                                clear hb hbk
                                by_cases hlt : k < ls.length
                                · have KLT := Lib.hid hlt
                                  have hk64 : k < 9223372036854775807 := by have := LF.out; omega
                                  have hk3 : (k : Int) < (ls.length : Int) := by omega
                                  have hk4 : ¬ (k : Int) < 0 := by omega
                                  have hk5 : (k : Int).toNat = k := by omega
                                  obtain ⟨⟨c1, t1⟩, hc1⟩ : ∃ x, x = ls[k] := ⟨_, rfl⟩
                                  have hkk : ls[k]? = some (c1, t1) := by rw [hc1]; exact List.getElem?_eq_getElem hlt
                                  obtain ⟨g1, hg1, hr1⟩ := row_at CR2.out (by omega)
                                  obtain ⟨g2, hg2, hr2⟩ := row_at AR2.out (by omega)
                                  subst hg1 hg2
                                  have IN := Lib.hid (show ∀ w', Below wO.heap.size wO w' → w'.cell? ⟨g1, k * 19 + 1, none⟩ = some (.int .i64 c1.id) ∧ w'.rangeAt g1 (k * 19 + 2) c1.p.cs.toList ∧ w'.cell? ⟨g2, k, none⟩ = some (.int .i64 (t1 : Int)) from fun w' hb => by
                                    have kc : ∀ {g q u}, wO.cell? ⟨g, q, none⟩ = some u → w'.cell? ⟨g, q, none⟩ = some u := fun h => by
                                      rw [hb.cell (World.block_lt_of_cell? wO _ h)]; exact h
                                    obtain ⟨r1, r2⟩ := cp_in_row (show wO.rangeAt g1 (k * 19) c1.cs.toList from fun j u hu => hr1 _ u (cpL_get _ k c1 j u (by rw [List.getElem?_map, hkk]; rfl) hu))
                                    exact ⟨kc r1, fun j u hu => kc (r2 j u hu), kc (hr2 k _ (by unfold atL; rw [List.getElem?_map, hkk]; rfl))⟩)
                                  have B6 := Lib.hid (below_then B4.out B5.out B4.out.size)
                                  have X5 := Lib.hid (X4.out.kept B5.out)
                                  have T1 := Lib.hid (show Jx = k → c1.id = (i : Int) ∧ c1.p = p ∧ t1 = t from fun e => by
                                    subst e
                                    obtain ⟨j1, j2, j3, j4⟩ := JX.out
                                    rw [hkk] at j1
                                    injection j1 with j1
                                    injection j1 with j5 j6
                                    subst j5 j6
                                    exact ⟨j2, j3, j4⟩)
                                  clear hc1 hkk hr1 hr2 hk
                                  as_aux_lemma =>
                                    cases b with
                                    | true =>
                                      go_upto_region 46 with fail
                                      refine wp_region_kept (by kernel_rfl) (by kernel_rfl) ?_
                                      iterate 6 (first | go_big_quiet_skip | (go_big_quiet_want; go_big_quiet_op; go_big_quiet_on))
                                      (first | go_big_quiet_skip | (go_big_quiet_want; refine kq_load 3 _ rfl ⟨g1, k * 19 + 1, none⟩ (.int .i64 c1.id) rfl (fun x => run_int_at (IN.out x.1 (below_then B6.out x.2 B6.out.size)).1) ?_; simp only [Act.put, List.setIfInBounds_toArray, List.set_cons_succ, List.set_cons_zero]; go_big_quiet_on))
                                      iterate 7 (first | go_big_quiet_skip | (go_big_quiet_want; go_big_quiet_op; go_big_quiet_on))
                                      (first | go_big_quiet_skip | (go_big_quiet_want; refine kq_load 41 _ rfl ⟨g1, k * 19 + 2, none⟩ (.agg c1.p.cs) rfl (fun x => run_page_mid (IN.out x.1 (below_then B6.out x.2 B6.out.size)).2.1) ?_; simp only [Act.put, List.setIfInBounds_toArray, List.set_cons_succ, List.set_cons_zero]; go_big_quiet_on))
                                      (first | go_big_quiet_skip | (go_big_quiet_want; refine kq_load 41 _ rfl ⟨G, 0, none⟩ (.agg p.cs) rfl (fun x => run_page_own (X5.out.kept x.2)) ?_; simp only [Act.put, List.setIfInBounds_toArray, List.set_cons_succ, List.set_cons_zero]; go_big_quiet_on))
                                      (first | go_big_quiet_skip | (go_big_quiet_want; refine kq_peql _ _ rfl c1.p p _ hpg rfl rfl ?_; simp only [Act.put, List.setIfInBounds_toArray, List.set_cons_succ, List.set_cons_zero]; go_big_quiet_on))
                                      iterate 5 (first | go_big_quiet_skip | (go_big_quiet_want; go_big_quiet_op; go_big_quiet_on))
                                      (first | go_big_quiet_skip | (go_big_quiet_want; refine kq_load 3 _ rfl ⟨g2, k, none⟩ (.int .i64 (t1 : Int)) rfl (fun x => run_int_at (IN.out x.1 (below_then B6.out x.2 B6.out.size)).2.2) ?_; simp only [Act.put, List.setIfInBounds_toArray, List.set_cons_succ, List.set_cons_zero]; go_big_quiet_on))
                                      iterate 6 (first | go_big_quiet_skip | (go_big_quiet_want; go_big_quiet_op; go_big_quiet_on))
                                      refine wpQuiet_nil ?_
                                      rintro _ ⟨xw, rfl⟩
                                      have BX := Lib.hid (below_then B5.out xw.2 B5.out.size)
                                      generalize xw.1 = w6 at BX ⊢
                                      clear xw
                                      go_wp2
                                      go_roundw
                                      case rel => exact ⟨k + 1, true, by have := KLT.out; omega, rfl, by go_num, fun _ => rfl, BX.out⟩
                                      case measure => have := KLT.out; simp [intOf]; omega
                                    | false =>
                                      have NK := Lib.hid (show Jx < k → False from fun h => by have := BK.out h; cases this)
                                      clear BK
                                      by_cases hid : c1.id = (i : Int)
                                      · have hidb : (c1.id == (i : Int)) = true := by simp [hid]
                                        cases hpg : pgB c1.p p with
                                        | true =>
                                          by_cases ht : t1 = t
                                          · have HT := Lib.hid ht
                                            clear hid
                                            go_upto_region 46 with fail
                                            refine wp_region_kept (by kernel_rfl) (by kernel_rfl) ?_
                                            iterate 6 (first | go_big_quiet_skip | (go_big_quiet_want; go_big_quiet_op; go_big_quiet_on))
                                            (first | go_big_quiet_skip | (go_big_quiet_want; refine kq_load 3 _ rfl ⟨g1, k * 19 + 1, none⟩ (.int .i64 c1.id) rfl (fun x => run_int_at (IN.out x.1 (below_then B6.out x.2 B6.out.size)).1) ?_; simp only [Act.put, List.setIfInBounds_toArray, List.set_cons_succ, List.set_cons_zero]; go_big_quiet_on))
                                            iterate 7 (first | go_big_quiet_skip | (go_big_quiet_want; go_big_quiet_op; go_big_quiet_on))
                                            (first | go_big_quiet_skip | (go_big_quiet_want; refine kq_load 41 _ rfl ⟨g1, k * 19 + 2, none⟩ (.agg c1.p.cs) rfl (fun x => run_page_mid (IN.out x.1 (below_then B6.out x.2 B6.out.size)).2.1) ?_; simp only [Act.put, List.setIfInBounds_toArray, List.set_cons_succ, List.set_cons_zero]; go_big_quiet_on))
                                            (first | go_big_quiet_skip | (go_big_quiet_want; refine kq_load 41 _ rfl ⟨G, 0, none⟩ (.agg p.cs) rfl (fun x => run_page_own (X5.out.kept x.2)) ?_; simp only [Act.put, List.setIfInBounds_toArray, List.set_cons_succ, List.set_cons_zero]; go_big_quiet_on))
                                            (first | go_big_quiet_skip | (go_big_quiet_want; refine kq_peql _ _ rfl c1.p p _ hpg rfl rfl ?_; simp only [Act.put, List.setIfInBounds_toArray, List.set_cons_succ, List.set_cons_zero]; go_big_quiet_on))
                                            iterate 5 (first | go_big_quiet_skip | (go_big_quiet_want; go_big_quiet_op; go_big_quiet_on))
                                            (first | go_big_quiet_skip | (go_big_quiet_want; refine kq_load 3 _ rfl ⟨g2, k, none⟩ (.int .i64 (t1 : Int)) rfl (fun x => run_int_at (IN.out x.1 (below_then B6.out x.2 B6.out.size)).2.2) ?_; simp only [Act.put, List.setIfInBounds_toArray, List.set_cons_succ, List.set_cons_zero]; go_big_quiet_on))
                                            iterate 6 (first | go_big_quiet_skip | (go_big_quiet_want; go_big_quiet_op; go_big_quiet_on))
                                            refine wpQuiet_nil ?_
                                            rintro _ ⟨xw, rfl⟩
                                            have BX := Lib.hid (below_then B5.out xw.2 B5.out.size)
                                            generalize xw.1 = w6 at BX ⊢
                                            clear xw
                                            go_wp2
                                            go_roundw
                                            case rel => exact ⟨k + 1, true, by have := KLT.out; omega, rfl, by go_num, fun _ => rfl, BX.out⟩
                                            case measure => have := KLT.out; simp [intOf]; omega
                                          · have HT := Lib.hid ht
                                            have hti : ¬ (t1 : Int) = (t : Int) := by omega
                                            clear hid
                                            go_upto_region 46 with fail
                                            refine wp_region_kept (by kernel_rfl) (by kernel_rfl) ?_
                                            iterate 6 (first | go_big_quiet_skip | (go_big_quiet_want; go_big_quiet_op; go_big_quiet_on))
                                            (first | go_big_quiet_skip | (go_big_quiet_want; refine kq_load 3 _ rfl ⟨g1, k * 19 + 1, none⟩ (.int .i64 c1.id) rfl (fun x => run_int_at (IN.out x.1 (below_then B6.out x.2 B6.out.size)).1) ?_; simp only [Act.put, List.setIfInBounds_toArray, List.set_cons_succ, List.set_cons_zero]; go_big_quiet_on))
                                            iterate 7 (first | go_big_quiet_skip | (go_big_quiet_want; go_big_quiet_op; go_big_quiet_on))
                                            (first | go_big_quiet_skip | (go_big_quiet_want; refine kq_load 41 _ rfl ⟨g1, k * 19 + 2, none⟩ (.agg c1.p.cs) rfl (fun x => run_page_mid (IN.out x.1 (below_then B6.out x.2 B6.out.size)).2.1) ?_; simp only [Act.put, List.setIfInBounds_toArray, List.set_cons_succ, List.set_cons_zero]; go_big_quiet_on))
                                            (first | go_big_quiet_skip | (go_big_quiet_want; refine kq_load 41 _ rfl ⟨G, 0, none⟩ (.agg p.cs) rfl (fun x => run_page_own (X5.out.kept x.2)) ?_; simp only [Act.put, List.setIfInBounds_toArray, List.set_cons_succ, List.set_cons_zero]; go_big_quiet_on))
                                            (first | go_big_quiet_skip | (go_big_quiet_want; refine kq_peql _ _ rfl c1.p p _ hpg rfl rfl ?_; simp only [Act.put, List.setIfInBounds_toArray, List.set_cons_succ, List.set_cons_zero]; go_big_quiet_on))
                                            iterate 5 (first | go_big_quiet_skip | (go_big_quiet_want; go_big_quiet_op; go_big_quiet_on))
                                            (first | go_big_quiet_skip | (go_big_quiet_want; refine kq_load 3 _ rfl ⟨g2, k, none⟩ (.int .i64 (t1 : Int)) rfl (fun x => run_int_at (IN.out x.1 (below_then B6.out x.2 B6.out.size)).2.2) ?_; simp only [Act.put, List.setIfInBounds_toArray, List.set_cons_succ, List.set_cons_zero]; go_big_quiet_on))
                                            iterate 6 (first | go_big_quiet_skip | (go_big_quiet_want; go_big_quiet_op; go_big_quiet_on))
                                            refine wpQuiet_nil ?_
                                            rintro _ ⟨xw, rfl⟩
                                            have BX := Lib.hid (below_then B5.out xw.2 B5.out.size)
                                            generalize xw.1 = w6 at BX ⊢
                                            clear xw
                                            go_wp2
                                            go_roundw
                                            case rel => exact ⟨k + 1, _, by have := KLT.out; omega, rfl, by go_num, fun h => by rcases Nat.lt_or_ge Jx k with h1 | h1; exact absurd (NK.out h1) (fun h => h); exact absurd (T1.out (by omega)).2.2 HT.out, BX.out⟩
                                            case measure => have := KLT.out; simp [intOf]; omega
                                        | false =>
                                          have HI := Lib.hid hpg
                                          clear hid
                                          go_upto_region 46 with fail
                                          refine wp_region_kept (by kernel_rfl) (by kernel_rfl) ?_
                                          iterate 6 (first | go_big_quiet_skip | (go_big_quiet_want; go_big_quiet_op; go_big_quiet_on))
                                          (first | go_big_quiet_skip | (go_big_quiet_want; refine kq_load 3 _ rfl ⟨g1, k * 19 + 1, none⟩ (.int .i64 c1.id) rfl (fun x => run_int_at (IN.out x.1 (below_then B6.out x.2 B6.out.size)).1) ?_; simp only [Act.put, List.setIfInBounds_toArray, List.set_cons_succ, List.set_cons_zero]; go_big_quiet_on))
                                          iterate 7 (first | go_big_quiet_skip | (go_big_quiet_want; go_big_quiet_op; go_big_quiet_on))
                                          (first | go_big_quiet_skip | (go_big_quiet_want; refine kq_load 41 _ rfl ⟨g1, k * 19 + 2, none⟩ (.agg c1.p.cs) rfl (fun x => run_page_mid (IN.out x.1 (below_then B6.out x.2 B6.out.size)).2.1) ?_; simp only [Act.put, List.setIfInBounds_toArray, List.set_cons_succ, List.set_cons_zero]; go_big_quiet_on))
                                          (first | go_big_quiet_skip | (go_big_quiet_want; refine kq_load 41 _ rfl ⟨G, 0, none⟩ (.agg p.cs) rfl (fun x => run_page_own (X5.out.kept x.2)) ?_; simp only [Act.put, List.setIfInBounds_toArray, List.set_cons_succ, List.set_cons_zero]; go_big_quiet_on))
                                          (first | go_big_quiet_skip | (go_big_quiet_want; refine kq_peql _ _ rfl c1.p p _ hpg rfl rfl ?_; simp only [Act.put, List.setIfInBounds_toArray, List.set_cons_succ, List.set_cons_zero]; go_big_quiet_on))
                                          iterate 5 (first | go_big_quiet_skip | (go_big_quiet_want; go_big_quiet_op; go_big_quiet_on))
                                          (first | go_big_quiet_skip | (go_big_quiet_want; refine kq_load 3 _ rfl ⟨g2, k, none⟩ (.int .i64 (t1 : Int)) rfl (fun x => run_int_at (IN.out x.1 (below_then B6.out x.2 B6.out.size)).2.2) ?_; simp only [Act.put, List.setIfInBounds_toArray, List.set_cons_succ, List.set_cons_zero]; go_big_quiet_on))
                                          iterate 6 (first | go_big_quiet_skip | (go_big_quiet_want; go_big_quiet_op; go_big_quiet_on))
                                          refine wpQuiet_nil ?_
                                          rintro _ ⟨xw, rfl⟩
                                          have BX := Lib.hid (below_then B5.out xw.2 B5.out.size)
                                          generalize xw.1 = w6 at BX ⊢
                                          clear xw
                                          go_wp2
                                          go_roundw
                                          case rel => exact ⟨k + 1, false, by have := KLT.out; omega, rfl, by go_num, (fun h => by rcases Nat.lt_or_ge Jx k with h1 | h1; exact absurd (NK.out h1) (fun h => h); have h2 := HI.out; rw [(T1.out (by omega)).2.1, pgB_self] at h2; cases h2), BX.out⟩
                                          case measure => have := KLT.out; simp [intOf]; omega
                                      · have hidb : (c1.id == (i : Int)) = false := by simp [hid]
                                        have HI := Lib.hid hid
                                        clear hid
                                        go_upto_region 46 with fail
                                        refine wp_region_kept (by kernel_rfl) (by kernel_rfl) ?_
                                        iterate 6 (first | go_big_quiet_skip | (go_big_quiet_want; go_big_quiet_op; go_big_quiet_on))
                                        (first | go_big_quiet_skip | (go_big_quiet_want; refine kq_load 3 _ rfl ⟨g1, k * 19 + 1, none⟩ (.int .i64 c1.id) rfl (fun x => run_int_at (IN.out x.1 (below_then B6.out x.2 B6.out.size)).1) ?_; simp only [Act.put, List.setIfInBounds_toArray, List.set_cons_succ, List.set_cons_zero]; go_big_quiet_on))
                                        iterate 7 (first | go_big_quiet_skip | (go_big_quiet_want; go_big_quiet_op; go_big_quiet_on))
                                        (first | go_big_quiet_skip | (go_big_quiet_want; refine kq_load 41 _ rfl ⟨g1, k * 19 + 2, none⟩ (.agg c1.p.cs) rfl (fun x => run_page_mid (IN.out x.1 (below_then B6.out x.2 B6.out.size)).2.1) ?_; simp only [Act.put, List.setIfInBounds_toArray, List.set_cons_succ, List.set_cons_zero]; go_big_quiet_on))
                                        (first | go_big_quiet_skip | (go_big_quiet_want; refine kq_load 41 _ rfl ⟨G, 0, none⟩ (.agg p.cs) rfl (fun x => run_page_own (X5.out.kept x.2)) ?_; simp only [Act.put, List.setIfInBounds_toArray, List.set_cons_succ, List.set_cons_zero]; go_big_quiet_on))
                                        (first | go_big_quiet_skip | (go_big_quiet_want; refine kq_peql _ _ rfl c1.p p _ hpg rfl rfl ?_; simp only [Act.put, List.setIfInBounds_toArray, List.set_cons_succ, List.set_cons_zero]; go_big_quiet_on))
                                        iterate 5 (first | go_big_quiet_skip | (go_big_quiet_want; go_big_quiet_op; go_big_quiet_on))
                                        (first | go_big_quiet_skip | (go_big_quiet_want; refine kq_load 3 _ rfl ⟨g2, k, none⟩ (.int .i64 (t1 : Int)) rfl (fun x => run_int_at (IN.out x.1 (below_then B6.out x.2 B6.out.size)).2.2) ?_; simp only [Act.put, List.setIfInBounds_toArray, List.set_cons_succ, List.set_cons_zero]; go_big_quiet_on))
                                        iterate 6 (first | go_big_quiet_skip | (go_big_quiet_want; go_big_quiet_op; go_big_quiet_on))
                                        refine wpQuiet_nil ?_
                                        rintro _ ⟨xw, rfl⟩
                                        have BX := Lib.hid (below_then B5.out xw.2 B5.out.size)
                                        generalize xw.1 = w6 at BX ⊢
                                        clear xw
                                        go_wp2
                                        go_roundw
                                        case rel => exact ⟨k + 1, false, by have := KLT.out; omega, rfl, by go_num, fun h => by rcases Nat.lt_or_ge Jx k with h1 | h1; exact absurd (NK.out h1) (fun h => h); exact absurd (T1.out (by omega)).1 HI.out, BX.out⟩
                                        case measure => have := KLT.out; simp [intOf]; omega
                                · obtain rfl : k = ls.length := by omega
                                  obtain rfl : b = true := BK.out JL.out
                                  clear hlt hk BK
                                  have hn0 : ¬ ((ls.length : Nat) : Int) < ((ls.length : Nat) : Int) := by omega
                                  have B7 := Lib.hid (below_then B4.out B5.out B4.out.size)
                                  clear B4 B5 X4 JX JL CR2 AR2 LOK PG LF
                                  as_aux_lemma =>
                                    go_wp2_with fail
                                    go_loopw [31, 196] (fun fd x wr => ∃ (k : Nat) (b : Bool), k ≤ n ∧ fd = .bool b ∧ x = .int .i64 k ∧ (j < k → b = true) ∧ Below wO.heap.size wO wr) (fun _ x _ => n - (intOf x).toNat)
                                    case atStart => exact ⟨0, false, Nat.zero_le _, rfl, rfl, fun h => absurd h (Nat.not_lt_zero _), B7.out⟩
                                    case round =>
                                      obtain ⟨k, b, hk, rfl, rfl, hbk, hb⟩ := hrel
                                      have B8 := Lib.hid hb; have BK := Lib.hid hbk
                                      clear hb hbk
                                      by_cases hlt : k < n
                                      · have KLT := Lib.hid hlt
                                        have hk64 : k < 9223372036854775807 := by have := LN.out; omega
                                        have hk3 : (k : Int) < (n : Int) := by omega
                                        have hk4 : ¬ (k : Int) < 0 := by omega
                                        have hk5 : (k : Int).toNat = k := by omega
                                        obtain ⟨g3, hg3, hr3⟩ := row_at ER.out (by omega)
                                        subst hg3
                                        obtain ⟨r, he1, he2⟩ := en_at (all.take n) 54 k (by rw [List.length_take]; have := NA.out; omega)
                                        rw [List.take_take, Nat.min_eq_left (Nat.le_of_lt hlt)] at he1
                                        obtain ⟨u, hu⟩ : ∃ u, u = plA all k := ⟨_, rfl⟩
                                        have hu' : 54 + total (all.take k) = u := by rw [hu]; rfl
                                        rw [hu'] at he1
                                        have kc : ∀ {q y}, wO.cell? ⟨g3, q, none⟩ = some y → wr.cell? ⟨g3, q, none⟩ = some y := fun h => by
                                          rw [B8.out.cell (World.block_lt_of_cell? wO _ h)]; exact h
                                        have c1 := kc (hr3 _ _ he1)
                                        have c2 := kc (hr3 _ _ he2)
                                        have U6 := Lib.hid (show u ≤ 6966 from by rw [hu]; exact plA_le TM.out k)
                                        have hu64 : u < 9223372036854775807 := by have := U6.out; omega
                                        have TU := Lib.hid (show j = k → u = t from fun e => by rw [hu, ← e]; exact JY.out.2.symm)
                                        clear hu hu' he1 he2 kc hr3 hk
                                        as_aux_lemma =>
                                          go_upto_region 52 with fail
                                          have e0 : (wr.alloc (.cells #[.int .i64 (u : Int), .string r] 61)).cell? ⟨wr.heap.size, 0, none⟩ = some (.int .i64 (u : Int)) := (Bk.new wr 61 #[.int .i64 (u : Int), .string r]).cell 0
                                          have B9 := Lib.hid (B8.out.alloc B8.out.size (.cells #[.int .i64 (u : Int), .string r] 61))
                                          generalize wr.alloc (.cells #[.int .i64 (u : Int), .string r] 61) = w5 at *
                                          obtain ⟨G2, hG2⟩ : ∃ G2, G2 = wr.heap.size := ⟨_, rfl⟩
                                          rw [← hG2] at e0 ⊢
                                          clear hG2 B8 c1 c2
                                          cases b with
                                          | true =>
                                            go_wp2
                                            go_roundw
                                            case rel => exact ⟨k + 1, true, by have := KLT.out; omega, rfl, by go_num, fun _ => rfl, B9.out⟩
                                            case measure => have := KLT.out; simp [intOf]; omega
                                          | false =>
                                            have NK := Lib.hid (show j < k → False from fun h => by have := BK.out h; cases this)
                                            clear BK
                                            by_cases hut : u = t
                                            · have HU := Lib.hid hut
                                              go_wp2
                                              go_roundw
                                              case rel => exact ⟨k + 1, true, by have := KLT.out; omega, rfl, by go_num, fun _ => rfl, B9.out⟩
                                              case measure => have := KLT.out; simp [intOf]; omega
                                            · have HU := Lib.hid hut
                                              go_wp2
                                              go_roundw
                                              case rel => exact ⟨k + 1, _, by have := KLT.out; omega, rfl, by go_num, fun h => by rcases Nat.lt_or_ge j k with h1 | h1; exact absurd (NK.out h1) (fun h => h); exact absurd (TU.out (by omega)) HU.out, B9.out⟩
                                              case measure => have := KLT.out; simp [intOf]; omega
                                      · obtain rfl : k = n := by omega
                                        obtain rfl : b = true := BK.out JY.out.1
                                        clear hlt hk BK
                                        have hn1 : ¬ ((k : Nat) : Int) < ((k : Nat) : Int) := by omega
                                        go_wp2
                                        go_roundw
                                        case rel => exact ⟨i + 1, by have := HLT.out; omega, by go_num, B8.out⟩
                                        case measure => have := HLT.out; simp [intOf]; omega
                    · obtain rfl : i = 6 := by omega
                      clear hlt hi
                      go_wp2
                      refine bodyPost_ret (v := .bool true) (by simp [results, Tryz.results3, go_sem]) rfl ?_
                      exact ⟨rfl, BO.out.trans (BR.out.mono BO.out.size)⟩
end Go.Proofs.YtgafajbdmegfgaaGreat
