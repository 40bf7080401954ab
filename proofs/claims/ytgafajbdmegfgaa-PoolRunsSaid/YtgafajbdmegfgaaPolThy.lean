/- Layer 12, plain: what the device has of the pool's pages, while it runs. Layer 12, plain: a pool and what its pages are. Layer 12, plain: a write, a Put. Layer 12, plain: Flush; a new pool over a blank device. Layer 12, plain: Flush, whole. -/
import Derived.Test.YtgafajbdmegfgaaPolFlush
set_option linter.unusedVariables false
set_option linter.unusedSimpArgs false
namespace Go.Proofs.Ytgafajbdmegfgaa
open Go.RowKit

/-- A device that is up, without end. -/
def PRun (S : Dsk) : Prop := S.down = false ∧ S.fuel = -1
/-- What a step leaves of a device that runs: it runs on, as long as it was. -/
structure Goes (S S' : Dsk) : Prop where
  run : PRun S'
  fl : S'.firm.length = S.firm.length
  nl : S'.now.length = S.now.length
theorem Goes.refl {S : Dsk} (h : PRun S) : Goes S S := ⟨h, rfl, rfl⟩
theorem Goes.trans {a b c : Dsk} (h : Goes a b) (k : Goes b c) : Goes a c := ⟨k.run, k.fl.trans h.fl, k.nl.trans h.nl⟩
theorem pwrite_run {S : Dsk} (h : PRun S) (i : Nat) (d : ByteArray) (hi : i < S.firm.length) (hd : d.size = 64) :
    (S.write (i : Int) d).2 = 0 ∧ Goes S (S.write (i : Int) d).1 ∧ (S.write (i : Int) d).1.now = S.now.set i d := by
  have e : S.write (i : Int) d = (S.wrote i d, 0) := by
    unfold Dsk.write
    rw [if_neg (by rw [h.1]; decide), if_pos ⟨by omega, by omega, hd⟩, if_neg (by rw [h.2]; decide), Int.toNat_natCast]
  rw [e]
  refine ⟨rfl, ⟨⟨h.1, ?_⟩, rfl, by show (S.now.set i d).length = _; rw [List.length_set]⟩, rfl⟩
  show (if 0 < S.fuel then S.fuel - 1 else S.fuel) = -1
  rw [h.2]; decide
theorem pbarrier_run {S : Dsk} (h : PRun S) : S.barrier.2 = 0 ∧ Goes S S.barrier.1 ∧ S.barrier.1.now = S.now ∧ S.barrier.1.pend = [] := by
  have e : S.barrier = (S.synced, 0) := by
    unfold Dsk.barrier
    rw [if_neg (by rw [h.1]; decide), if_neg (by rw [h.2]; decide)]
  rw [e]
  refine ⟨rfl, ⟨⟨h.1, ?_⟩, apply_length _ _, rfl⟩, rfl, rfl⟩
  show (if 0 < S.fuel then S.fuel - 1 else S.fuel) = -1
  rw [h.2]; decide
theorem getD_set (l : List ByteArray) (i j : Nat) (d : ByteArray) (hi : i < l.length) : (l.set i d).getD j ⟨#[]⟩ = if j = i then d else l.getD j ⟨#[]⟩ := by
  rw [List.getD_eq_getElem?_getD, List.getD_eq_getElem?_getD, List.getElem?_set]
  by_cases e : j = i
  · subst e; rw [if_pos rfl, if_pos rfl, if_pos hi]; rfl
  · rw [if_neg (Ne.symm e), if_neg e]
theorem swr_run (s : Sl) (base : Nat) (hs : ∀ k, k < 4 → (s.sec k).size = 64) : ∀ (m k : Nat) (S : Dsk), PRun S → k + m ≤ 4 → base + 4 * s.id.toNat + 4 ≤ S.firm.length → S.now.length = S.firm.length →
    (s.wr base m k S).2 = 0 ∧ Goes S (s.wr base m k S).1 ∧ ∀ j, (s.wr base m k S).1.now.getD j ⟨#[]⟩ = if base + 4 * s.id.toNat + k ≤ j ∧ j < base + 4 * s.id.toNat + k + m then s.sec (j - (base + 4 * s.id.toNat)) else S.now.getD j ⟨#[]⟩
  | 0, k, S, hr, _, _, _ => ⟨rfl, .refl hr, fun j => by rw [if_neg (by omega)]; rfl⟩
  | m + 1, k, S, hr, hk, hf, hn => by
    obtain ⟨e0, hg, hnow⟩ := pwrite_run hr (base + 4 * s.id.toNat + k) (s.sec k) (by omega) (hs k (by omega))
    obtain ⟨a, b, c⟩ := swr_run s base hs m (k + 1) _ hg.run (by omega) (by rw [hg.fl]; exact hf) (by rw [hg.fl, hg.nl]; exact hn)
    unfold Sl.wr
    rw [if_pos e0]
    refine ⟨a, hg.trans b, fun j => ?_⟩
    rw [c j, hnow, getD_set _ _ _ _ (by omega)]
    by_cases h1 : j = base + 4 * s.id.toNat + k
    · subst h1
      rw [if_neg (by omega), if_pos rfl, if_pos (by omega)]
      congr 1; omega
    · rw [if_neg h1]
      by_cases h2 : base + 4 * s.id.toNat + (k + 1) ≤ j ∧ j < base + 4 * s.id.toNat + (k + 1) + m
      · rw [if_pos h2, if_pos (by omega)]
      · rw [if_neg h2, if_neg (by omega)]
theorem lwr_run (L : Lg) (h1 : 1 ≤ L.n) : ∀ (m k : Nat) (S : Dsk), PRun S → L.first + L.n ≤ S.firm.length → S.now.length = S.firm.length →
    (L.wr m k S).2 = 0 ∧ Goes S (L.wr m k S).1 ∧ ∀ j, L.first + L.n ≤ j → (L.wr m k S).1.now.getD j ⟨#[]⟩ = S.now.getD j ⟨#[]⟩
  | 0, k, S, hr, _, _ => ⟨rfl, .refl hr, fun j _ => rfl⟩
  | m + 1, k, S, hr, hf, hn => by
    have hm := Nat.mod_lt k (show 0 < L.n by omega)
    obtain ⟨e0, hg, hnow⟩ := pwrite_run hr (L.first + k % L.n) (L.sec k) (by omega) (L.sec_size k)
    obtain ⟨a, b, c⟩ := lwr_run L h1 m (k + 1) _ hg.run (by rw [hg.fl]; exact hf) (by rw [hg.fl, hg.nl]; exact hn)
    unfold Lg.wr
    rw [if_pos e0]
    refine ⟨a, hg.trans b, fun j hj => ?_⟩
    rw [c j hj, hnow, getD_set _ _ _ _ (by omega), if_neg (by omega)]
theorem lflush_run {L : Lg} (h : L.ok) {S : Dsk} (hr : PRun S) (hf : L.first + L.n ≤ S.firm.length) (hn : S.now.length = S.firm.length) (at_ : Int) :
    (L.flush S at_).2.2 = 0 ∧ Goes S (L.flush S at_).2.1 ∧ (∀ j, L.first + L.n ≤ j → (L.flush S at_).2.1.now.getD j ⟨#[]⟩ = S.now.getD j ⟨#[]⟩) ∧ (L.flush S at_).1.first = L.first ∧ (L.flush S at_).1.n = L.n ∧ (L.flush S at_).1.fin = L.fin ∧ ((L.flush S at_).2.1.pend.length ≤ S.pend.length) := by
  obtain ⟨a, b, c⟩ := lwr_run L (by have := h.n1; omega) L.rounds (L.firm / 54) S hr hf hn
  obtain ⟨d, e, f, g⟩ := pbarrier_run b.run
  unfold Lg.flush
  split
  · exact ⟨rfl, .refl hr, fun j _ => rfl, rfl, rfl, rfl, Nat.le_refl _⟩
  · rw [if_neg (by rw [a]; decide), if_neg (by rw [d]; decide)]
    exact ⟨d, b.trans e, fun j hj => by show (L.wr L.rounds (L.firm / 54) S).1.barrier.1.now.getD j ⟨#[]⟩ = _; rw [f]; exact c j hj, rfl, rfl, rfl, by show (L.wr L.rounds (L.firm / 54) S).1.barrier.1.pend.length ≤ _; rw [g]; exact Nat.zero_le _⟩
/-- Page i stands on the device, with that stamp. -/
structure PgAt (S : Dsk) (base i : Nat) (p : Pg) (t : Nat) : Prop where
  ok : p.ok
  tb : t < 18446744073709551616
  at_ : ∀ k, k < 4 → S.now.getD (base + 4 * i + k) ⟨#[]⟩ = Fr.sec p.bytes (Fr.mk t) k
theorem PgAt.same {S S' : Dsk} {base i : Nat} {p : Pg} {t : Nat} (h : PgAt S base i p t) (hs : ∀ k, k < 4 → S'.now.getD (base + 4 * i + k) ⟨#[]⟩ = S.now.getD (base + 4 * i + k) ⟨#[]⟩) : PgAt S' base i p t where
  ok := h.ok
  tb := h.tb
  at_ := fun k hk => (hs k hk).trans (h.at_ k hk)
theorem opened_same {s : Nat → ByteArray} {body mark : ByteArray} (hb : body.size = 224) (hm : mark.size = 8) (h : ∀ k, k < 4 → s k = Fr.sec body mark k) : Fr.opened s = (body, Oct.sval mark, 0) := by
  have h0 : s 0 = Fr.sec body mark 0 := h 0 (by omega)
  have t0 : Fr.tl (s 0) = mark := by rw [h0]; exact Fr.sec_tl hb (by omega)
  have h64 : ∀ i, i < 4 → (s i).size = 64 := fun k hk => by rw [h k hk]; exact Fr.sec_size hb hm hk
  have htl : ∀ i, i < 4 → Fr.tl (s i) = Fr.tl (s 0) := fun k hk => by
    rw [t0, h k hk]
    exact Fr.sec_tl hb hk
  have e := Fr.opened_ok h64 htl
  have hp : Fr.parts s = body := by
    refine Eq.trans ?_ (Fr.parts_sec (body := body) (mark := mark) hb)
    unfold Fr.parts
    rw [h0, h 1 (by omega), h 2 (by omega), h 3 (by omega)]
  rw [hp, t0] at e
  exact e
theorem PgAt.opened {S : Dsk} {base i : Nat} {p : Pg} {t : Nat} (h : PgAt S base i p t) : Fr.opened (secsOf S base i) = (p.bytes, t, 0) := by
  have hb : p.bytes.size = 224 := bytes_size p h.ok
  have hv : Oct.sval (Fr.mk t) = t := Fr.mk_val t h.tb
  have hs : ∀ k, k < 4 → secsOf S base i k = Fr.sec p.bytes (Fr.mk t) k := h.at_
  have e := opened_same hb (Fr.mk_size t) hs
  rw [hv] at e
  exact e
theorem PgAt.load {S : Dsk} {base i : Nat} {p : Pg} {t : Nat} (h : PgAt S base i p t) (hr : PRun S) : ∃ x, loadP S base i = (x, 0) ∧ x.cs = p.cs ∧ x.ok := by
  obtain ⟨g1, g2⟩ := good_bytes p h.ok
  have d1 : decErr p.bytes = 0 := by unfold decErr; exact if_pos g1
  have d2 : Pg.dec p.bytes = Pg.of p.bytes := by unfold Pg.dec; exact if_pos g1
  have hop := h.opened
  generalize p.bytes = body at *
  refine ⟨Pg.of body, ?_, g2, g1.2.1⟩
  unfold loadP
  rw [if_neg (by rw [hr.1]; decide), hop]
  dsimp only
  rw [if_pos rfl, d1, d2]
end Go.Proofs.Ytgafajbdmegfgaa
namespace Go.Proofs.Ytgafajbdmegfgaa
open Go.RowKit

/-- Between two calls: what each page is, and the place of its record. -/
structure Pv (P : Po) (S : Dsk) (Now : Nat → Pg) (St : Nat → Nat) : Prop where
  run : PRun S
  nl : S.now.length = S.firm.length
  fit : P.base + 4 * P.pages ≤ S.firm.length
  dev : ∀ i, i < P.pages → ∃ d t, PgAt S P.base i d t ∧ ((d.cs = (Now i).cs ∧ t = St i) ∨ ∃ (j : Nat) (s : Sl), P.ss[j]? = some s ∧ s.id = (i : Int) ∧ s.di = true)
  sl : ∀ (j : Nat) (s : Sl), P.ss[j]? = some s → ∃ i : Nat, i < P.pages ∧ s.id = (i : Int) ∧ s.p.cs = (Now i).cs ∧ s.p.ok ∧ (s.di = true → s.st = St i)
theorem Pv.good {P : Po} {S : Dsk} {Now : Nat → Pg} {St : Nat → Nat} (h : Pv P S Now St) : ∀ s ∈ P.ss, 0 ≤ s.id ∧ s.p.ok := fun s hs => by
  obtain ⟨j, hj, rfl⟩ := List.mem_iff_getElem.1 hs
  obtain ⟨i, hi, e, -, ok, -⟩ := h.sl j _ (List.getElem?_eq_getElem hj)
  exact ⟨by omega, ok⟩
theorem Sp.like {P P1 : Po} {i : Nat} {ok : Bool} (h : Sp P P1 i ok) {j : Nat} {s : Sl} (hs : P.ss[j]? = some s) : ∃ s', P1.ss[j]? = some s' ∧ likeS s' s := by
  obtain ⟨hj, e⟩ := List.getElem?_eq_some_iff.1 hs
  obtain ⟨hj', hl⟩ := h.same j hj
  exact ⟨P1.ss[j], List.getElem?_eq_getElem hj', by rw [← e]; exact hl⟩
theorem Sp.old {P P1 : Po} {i : Nat} {ok : Bool} (h : Sp P P1 i ok) {j : Nat} {s' : Sl} (hs : P1.ss[j]? = some s') (hne : ok = true → j ≠ i) : ∃ s, P.ss[j]? = some s ∧ likeS s' s := by
  obtain ⟨hj', e⟩ := List.getElem?_eq_some_iff.1 hs
  have hj : j < P.ss.length := by
    rcases h.new with e1 | ⟨e1, e2, e3, -⟩
    · omega
    · have := hne e2
      omega
  obtain ⟨_, hl⟩ := h.same j hj
  exact ⟨P.ss[j], List.getElem?_eq_getElem hj, by rw [← e]; exact hl⟩
/-- A slot that could be had is laid over. -/
theorem Pv.lay {P P1 : Po} {S : Dsk} {Now Now' : Nat → Pg} {St St' : Nat → Nat} (h : Pv P S Now St) {i : Nat} (hsp : Sp P P1 i true) (hi : i < P1.ss.length) (s : Sl) (k : Nat) (hk : k < P.pages) (hno : ∀ t ∈ P.ss, t.id ≠ (k : Int))
    (h1 : s.id = (k : Int)) (h2 : s.p.cs = (Now' k).cs) (h3 : s.p.ok) (h4 : s.di = true → s.st = St' k) (hoth : ∀ m, m ≠ k → Now' m = Now m ∧ St' m = St m) (hcl : s.di = false → Now' k = Now k ∧ St' k = St k) :
    Pv { P1 with ss := P1.ss.set i s } S Now' St' where
  run := h.run
  nl := h.nl
  fit := by show P1.base + 4 * P1.pages ≤ _; rw [hsp.base, hsp.pages]; exact h.fit
  dev := fun m hm => by
    change m < P1.pages at hm
    rw [hsp.pages] at hm
    obtain ⟨d, t, hat, hc⟩ := h.dev m hm
    refine ⟨d, t, by show PgAt S P1.base m d t; rw [hsp.base]; exact hat, ?_⟩
    by_cases e : m = k
    · subst e
      rcases hd : s.di with _ | _
      · obtain ⟨e1, e2⟩ := hcl hd
        rw [e1, e2]
        rcases hc with hc | ⟨j, u, hu, hid, -⟩
        · exact .inl hc
        · exact absurd hid (hno u (List.mem_of_getElem? hu))
      · exact .inr ⟨i, s, by show (P1.ss.set i s)[i]? = _; rw [List.getElem?_set_self hi], h1, hd⟩
    · obtain ⟨e1, e2⟩ := hoth m e
      rw [e1, e2]
      rcases hc with hc | ⟨j, u, hu, hid, hd⟩
      · exact .inl hc
      · obtain ⟨u', hu', hl⟩ := hsp.like hu
        have hji : i ≠ j := fun e3 => by
          subst e3
          have hf := hsp.free rfl hi
          rw [List.getElem?_eq_getElem hi] at hu'
          injection hu' with hu'
          rw [hu', hl.2.2.2, hd] at hf
          cases hf
        exact .inr ⟨j, u', by show (P1.ss.set i s)[j]? = _; rw [List.getElem?_set_ne hji]; exact hu', hl.1.trans hid, hl.2.2.2.trans hd⟩
  sl := fun j u hu => by
    change (P1.ss.set i s)[j]? = some u at hu
    by_cases e : i = j
    · subst e
      rw [List.getElem?_set_self hi] at hu
      injection hu with hu
      subst hu
      exact ⟨k, by show k < P1.pages; rw [hsp.pages]; exact hk, h1, h2, h3, h4⟩
    · rw [List.getElem?_set_ne e] at hu
      obtain ⟨v, hv, hl⟩ := hsp.old hu (fun _ => Ne.symm e)
      obtain ⟨m, hm, e1, e2, e3, e4⟩ := h.sl j v hv
      have hmk : m ≠ k := fun e5 => hno v (List.mem_of_getElem? hv) (by rw [e1, e5])
      obtain ⟨n1, n2⟩ := hoth m hmk
      exact ⟨m, by show m < P1.pages; rw [hsp.pages]; exact hm, hl.1.trans e1, by rw [hl.2.1, n1]; exact e2, by rw [hl.2.1]; exact e3, fun hd => by rw [hl.2.2.1, n2]; exact e4 (by rw [← hl.2.2.2]; exact hd)⟩
/-- No slot could be had. -/
theorem Pv.spare_no {P P1 : Po} {S : Dsk} {Now : Nat → Pg} {St : Nat → Nat} (h : Pv P S Now St) {i : Nat} (hsp : Sp P P1 i false) : Pv P1 S Now St where
  run := h.run
  nl := h.nl
  fit := by rw [hsp.base, hsp.pages]; exact h.fit
  dev := fun m hm => by
    rw [hsp.pages] at hm
    obtain ⟨d, t, hat, hc⟩ := h.dev m hm
    refine ⟨d, t, by rw [hsp.base]; exact hat, ?_⟩
    rcases hc with hc | ⟨j, u, hu, hid, hd⟩
    · exact .inl hc
    · obtain ⟨u', hu', hl⟩ := hsp.like hu
      exact .inr ⟨j, u', hu', hl.1.trans hid, hl.2.2.2.trans hd⟩
  sl := fun j u hu => by
    obtain ⟨v, hv, hl⟩ := hsp.old hu (fun e => by cases e)
    obtain ⟨m, hm, e1, e2, e3, e4⟩ := h.sl j v hv
    exact ⟨m, by rw [hsp.pages]; exact hm, hl.1.trans e1, by rw [hl.2.1]; exact e2, by rw [hl.2.1]; exact e3, fun hd => by rw [hl.2.2.1]; exact e4 (by rw [← hl.2.2.2]; exact hd)⟩
/-- What Get answers. -/
theorem Pv.get {P P' : Po} {S : Dsk} {Now : Nat → Pg} {St : Nat → Nat} (h : Pv P S Now St) {id : Nat} (hid : id < P.pages) {x : Pg} {er : Int} (hr : GetRel P S id P' x er) : er = 0 ∧ x.cs = (Now id).cs ∧ Pv P' S Now St ∧ P'.base = P.base ∧ P'.pages = P.pages ∧ P'.frames = P.frames := by
  rcases hr with ⟨j, hj, hjid, rfl, rfl, rfl⟩ | ⟨hno, hl, -, -, -⟩ | ⟨hno, hl, rfl, P1, i, ok, hsp, hc⟩
  · obtain ⟨m, hm, e1, e2, e3, e4⟩ := h.sl j _ (List.getElem?_eq_getElem hj)
    obtain rfl : m = id := by omega
    refine ⟨rfl, e2, ?_, rfl, rfl, rfl⟩
    exact {
      run := h.run, nl := h.nl, fit := h.fit
      dev := fun q hq => by
        obtain ⟨d, t, hat, hc⟩ := h.dev q hq
        refine ⟨d, t, hat, ?_⟩
        rcases hc with hc | ⟨k, u, hu, hid, hd⟩
        · exact .inl hc
        · by_cases e : j = k
          · subst e
            rw [List.getElem?_eq_getElem hj] at hu
            injection hu with hu
            exact .inr ⟨j, { P.ss[j] with us := true }, by show (P.ss.set j _)[j]? = _; rw [List.getElem?_set_self hj], by rw [← hid, ← hu], by rw [← hd, ← hu]⟩
          · exact .inr ⟨k, u, by show (P.ss.set j _)[k]? = _; rw [List.getElem?_set_ne e]; exact hu, hid, hd⟩
      sl := fun k u hu => by
        change (P.ss.set j _)[k]? = some u at hu
        by_cases e : j = k
        · subst e
          rw [List.getElem?_set_self hj] at hu
          injection hu with hu
          subst hu
          exact ⟨m, hm, e1, e2, e3, e4⟩
        · rw [List.getElem?_set_ne e] at hu
          exact h.sl k u hu }
  · obtain ⟨d, t, hat, -⟩ := h.dev id hid
    obtain ⟨y, hy, -, -⟩ := hat.load h.run
    rw [hy] at hl
    exact absurd rfl hl
  · obtain ⟨d, t, hat, hc2⟩ := h.dev id hid
    obtain ⟨y, hy, hyc, hyo⟩ := hat.load h.run
    obtain rfl : y = x := by rw [hy] at hl; injection hl
    have hnow : d.cs = (Now id).cs := by
      rcases hc2 with hc2 | ⟨j, u, hu, hid2, -⟩
      · exact hc2.1
      · exact absurd hid2 (hno u (List.mem_of_getElem? hu))
    rcases hc with ⟨rfl, rfl⟩ | ⟨rfl, hi, rfl⟩
    · exact ⟨rfl, hyc.trans hnow, h.spare_no hsp, hsp.base, hsp.pages, hsp.frames⟩
    · refine ⟨rfl, hyc.trans hnow, h.lay hsp hi _ id hid hno rfl (hyc.trans hnow) hyo (fun e => by cases e) (fun _ _ => ⟨rfl, rfl⟩) (fun _ => ⟨rfl, rfl⟩), hsp.base, hsp.pages, hsp.frames⟩
end Go.Proofs.Ytgafajbdmegfgaa
namespace Go.Proofs.Ytgafajbdmegfgaa
open Go.RowKit

theorem Pv.hand {P : Po} {S : Dsk} {Now : Nat → Pg} {St : Nat → Nat} (h : Pv P S Now St) (n : Nat) : Pv { P with hand := n } S Now St := ⟨h.run, h.nl, h.fit, h.dev, h.sl⟩
theorem sl_sec_size {s : Sl} (h : s.p.ok) : ∀ k, k < 4 → (s.sec k).size = 64 := fun k hk => Fr.sec_size (bytes_size s.p h) (Fr.mk_size _) hk
/-- A slot's page goes to the device. -/
theorem Pv.write {P : Po} {S : Dsk} {L : Lg} {Now : Nat → Pg} {St : Nat → Nat} (h : Pv P S Now St) (hP : P.ok) (hL : L.ok) (hfb : L.first + L.n ≤ P.base) {i : Nat} (hi : i < P.ss.length) (hd : (P.ss[i]).di = true) :
    ((P.ss[i]).flush P.base L S).2.2 = 0 ∧ Goes S ((P.ss[i]).flush P.base L S).2.1 ∧ Pv { P with ss := P.ss.set i { P.ss[i] with di := false } } ((P.ss[i]).flush P.base L S).2.1 Now St := by
  obtain ⟨k, hk, e1, e2, e3, e4⟩ := h.sl i _ (List.getElem?_eq_getElem hi)
  have hst := hP.stb _ (List.getElem_mem hi)
  have hone := fun j hj (hne : i ≠ j) => hP.one i j hi hj hne
  generalize hs : P.ss[i] = s at *
  have hfit := h.fit
  obtain ⟨a, b, c, -, -, -, -⟩ := lflush_run hL h.run (by omega) h.nl (s.st : Int)
  have hidn : s.id.toNat = k := by omega
  obtain ⟨a2, b2, c2⟩ := swr_run s P.base (sl_sec_size e3) 4 0 _ b.run (by omega) (by rw [b.fl, hidn]; omega) (by rw [b.fl, b.nl]; exact h.nl)
  have ef : s.flush P.base L S = ((L.flush S (s.st : Int)).1, s.wr P.base 4 0 (L.flush S (s.st : Int)).2.1) := by
    unfold Sl.flush; exact if_pos a
  rw [ef]
  have hg := b.trans b2
  refine ⟨a2, hg, ?_⟩
  have hold : ∀ m, m < P.pages → m ≠ k → ∀ q, q < 4 → (s.wr P.base 4 0 (L.flush S (s.st : Int)).2.1).1.now.getD (P.base + 4 * m + q) ⟨#[]⟩ = S.now.getD (P.base + 4 * m + q) ⟨#[]⟩ := fun m hm hmk q hq => by
    rw [c2, if_neg (by rw [hidn]; omega)]
    exact c _ (by omega)
  exact {
    run := hg.run
    nl := by show (s.wr P.base 4 0 (L.flush S (s.st : Int)).2.1).1.now.length = _; rw [hg.nl, hg.fl]; exact h.nl
    fit := by show P.base + 4 * P.pages ≤ (s.wr P.base 4 0 (L.flush S (s.st : Int)).2.1).1.firm.length; rw [hg.fl]; exact h.fit
    dev := fun m hm => by
      change m < P.pages at hm
      by_cases e : m = k
      · subst e
        refine ⟨s.p, s.st, ⟨e3, by omega, fun q hq => ?_⟩, .inl ⟨e2, e4 hd⟩⟩
        show (s.wr P.base 4 0 (L.flush S (s.st : Int)).2.1).1.now.getD (P.base + 4 * m + q) ⟨#[]⟩ = _
        rw [c2, hidn, if_pos (by omega), show P.base + 4 * m + q - (P.base + 4 * m) = q by omega]
        rfl
      · obtain ⟨d, t, hat, hc⟩ := h.dev m hm
        refine ⟨d, t, hat.same (hold m hm e), ?_⟩
        rcases hc with hc | ⟨j, u, hu, hid, hdu⟩
        · exact .inl hc
        · have hij : i ≠ j := fun e5 => by
            subst e5
            rw [List.getElem?_eq_getElem hi, hs] at hu
            injection hu with hu
            subst hu
            rw [e1] at hid
            omega
          exact .inr ⟨j, u, by show (P.ss.set i _)[j]? = _; rw [List.getElem?_set_ne hij]; exact hu, hid, hdu⟩
    sl := fun j u hu => by
      change (P.ss.set i _)[j]? = some u at hu
      by_cases e : i = j
      · subst e
        rw [List.getElem?_set_self hi] at hu
        injection hu with hu
        subst hu
        exact ⟨k, hk, e1, e2, e3, fun hx => by cases hx⟩
      · rw [List.getElem?_set_ne e] at hu
        exact h.sl j u hu }
def updN {α : Type} (f : Nat → α) (k : Nat) (x : α) : Nat → α := fun m => if m = k then x else f m
theorem updN_at {α : Type} (f : Nat → α) (k : Nat) (x : α) : updN f k x k = x := if_pos rfl
theorem updN_ne {α : Type} (f : Nat → α) {k m : Nat} (x : α) (h : m ≠ k) : updN f k x m = f m := if_neg h
theorem Sp.here {P : Po} (h : P.ok) {i : Nat} (hi : i < P.ss.length) (hc : (P.ss[i]).di = false) : Sp P P i true where
  base := rfl
  pages := rfl
  frames := rfl
  lt := .inl hi
  hl := fun e => by cases e
  same := fun j hj => ⟨hj, .refl _⟩
  new := .inl rfl
  free := fun _ _ => hc
  full := fun e => by cases e
  ok' := h
/-- The slot that has a page is laid over. -/
theorem Pv.over {P : Po} {S : Dsk} {Now : Nat → Pg} {St : Nat → Nat} (h : Pv P S Now St) (hP : P.ok) {j : Nat} (hj : j < P.ss.length) (k : Nat) (hk : k < P.pages) (hid : (P.ss[j]).id = (k : Int)) (x : Pg) (hx : x.ok) (st : Nat) :
    Pv { P with ss := P.ss.set j ⟨k, x, st, true, true⟩ } S (updN Now k x) (updN St k st) where
  run := h.run
  nl := h.nl
  fit := h.fit
  dev := fun m hm => by
    obtain ⟨d, t, hat, hc⟩ := h.dev m hm
    refine ⟨d, t, hat, ?_⟩
    by_cases e : m = k
    · subst e
      exact .inr ⟨j, ⟨m, x, st, true, true⟩, by show (P.ss.set j _)[j]? = _; rw [List.getElem?_set_self hj], rfl, rfl⟩
    · rw [updN_ne _ _ e, updN_ne _ _ e]
      rcases hc with hc | ⟨q, u, hu, hq, hd⟩
      · exact .inl hc
      · have hne : j ≠ q := fun e5 => by
          subst e5
          rw [List.getElem?_eq_getElem hj] at hu
          injection hu with hu
          rw [hu, hq] at hid
          omega
        exact .inr ⟨q, u, by show (P.ss.set j _)[q]? = _; rw [List.getElem?_set_ne hne]; exact hu, hq, hd⟩
  sl := fun q u hu => by
    change (P.ss.set j _)[q]? = some u at hu
    by_cases e : j = q
    · subst e
      rw [List.getElem?_set_self hj] at hu
      injection hu with hu
      subst hu
      exact ⟨k, hk, rfl, by rw [updN_at], hx, fun _ => by rw [updN_at]⟩
    · rw [List.getElem?_set_ne e] at hu
      obtain ⟨m, hm, e1, e2, e3, e4⟩ := h.sl q u hu
      have hmk : m ≠ k := fun e5 => by
        obtain ⟨hq, e6⟩ := List.getElem?_eq_some_iff.1 hu
        have := hP.one j q hj hq e (by rw [hid, e6, e1, e5])
        omega
      exact ⟨m, hm, e1, by rw [updN_ne _ _ hmk]; exact e2, e3, fun hd => by rw [updN_ne _ _ hmk]; exact e4 hd⟩
/-- What Put does. -/
theorem Pv.put {P P' : Po} {S S' : Dsk} {L L' : Lg} {Now : Nat → Pg} {St : Nat → Nat} (h : Pv P S Now St) (hP : P.ok) (hL : L.ok) (hfb : L.first + L.n ≤ P.base) {id : Nat} (hid : id < P.pages) {x : Pg} (hx : x.ok) {st : Nat} {er : Int} (hr : PutRel P L S id x st P' L' S' er) :
    er = 0 ∧ Pv P' S' (updN Now id x) (updN St id st) ∧ P'.base = P.base ∧ P'.pages = P.pages ∧ P'.frames = P.frames := by
  rcases hr with ⟨j, hj, hjid, rfl, rfl, rfl, rfl⟩ | ⟨hno, P1, i, hroom, hi, rfl⟩
  · exact ⟨rfl, h.over hP hj id hid hjid x hx st, rfl, rfl, rfl⟩
  · rcases hroom with ⟨ok, hsp, rfl, rfl, rfl, rfl⟩ | ⟨P2, k, hi2, hsp, hih, hfl, rfl⟩
    · rw [if_pos rfl]
      exact ⟨rfl, h.lay hsp hi _ id hid hno rfl (by rw [updN_at]) hx (fun _ => by rw [updN_at]) (fun m hm => ⟨updN_ne _ _ hm, updN_ne _ _ hm⟩) (fun e => by cases e), hsp.base, hsp.pages, hsp.frames⟩
    · have h2 := h.spare_no hsp
      have hd := hsp.full rfl i hi2
      obtain ⟨a, b, c⟩ := h2.write hsp.ok' hL (by rw [hsp.base]; exact hfb) hi2 hd
      rw [← hfl] at a b c
      dsimp only at a b c
      subst a
      have hno2 := hsp.ids hno (by omega)
      have c2 := c.hand ((i + 1) % P2.ss.length)
      rw [if_pos rfl]
      dsimp only
      rw [if_pos rfl]
      have hiw : i < (P2.ss.set i { P2.ss[i] with di := false }).length := by rw [List.length_set]; exact hi2
      have hno3 : ∀ t ∈ (P2.ss.set i { P2.ss[i] with di := false }), t.id ≠ (id : Int) := fun t ht => by
        rcases List.mem_or_eq_of_mem_set ht with h5 | rfl
        · exact hno2 t h5
        · have h6 := hno2 _ (List.getElem_mem hi2)
          exact h6
      have okw : Po.ok { P2 with hand := (i + 1) % P2.ss.length, ss := P2.ss.set i { P2.ss[i] with di := false } } := by
        have q1 := hsp.ok'.ids _ (List.getElem_mem hi2)
        have q2 := hsp.ok'.stb _ (List.getElem_mem hi2)
        have q := hsp.ok'.set hi2 { P2.ss[i] with di := false } q1 q2 (fun j hj hne e => by
          have := hsp.ok'.one i j hi2 hj (Ne.symm hne) e.symm
          exact this)
        exact { q with hand := .inr (by show (i + 1) % P2.ss.length < (P2.ss.set i _).length; rw [List.length_set]; exact Nat.mod_lt _ (by omega)) }
      have hsp2 := Sp.here okw (i := i) hiw (by show ((P2.ss.set i _)[i]'hiw).di = false; rw [List.getElem_set_self])
      exact ⟨rfl, c2.lay hsp2 hiw _ id (by show id < P2.pages; rw [hsp.pages]; exact hid) hno3 rfl (by rw [updN_at]) hx (fun _ => by rw [updN_at]) (fun m hm => ⟨updN_ne _ _ hm, updN_ne _ _ hm⟩) (fun e => by cases e), hsp.base, hsp.pages, hsp.frames⟩
end Go.Proofs.Ytgafajbdmegfgaa
namespace Go.Proofs.Ytgafajbdmegfgaa
open Go.RowKit

theorem Po.ok.clean {P : Po} (h : P.ok) {i : Nat} (hi : i < P.ss.length) : Po.ok { P with ss := P.ss.set i { P.ss[i] with di := false } } := by
  have q1 := h.ids _ (List.getElem_mem hi)
  have q2 := h.stb _ (List.getElem_mem hi)
  exact h.set hi { P.ss[i] with di := false } q1 q2 (fun j hj hne e => h.one i j hi hj (Ne.symm hne) e.symm)
theorem lflush_ok {L : Lg} (h : L.ok) (S : Dsk) (at_ : Int) : (L.flush S at_).1.ok ∧ (L.flush S at_).1.first = L.first ∧ (L.flush S at_).1.n = L.n := by
  have h2 : ({ L with firm := L.fin } : Lg).ok := { h with sf := Nat.le_trans h.sf h.fe, fe := Nat.le_refl _ }
  unfold Lg.flush
  split
  · exact ⟨h, rfl, rfl⟩
  split
  · exact ⟨h, rfl, rfl⟩
  split
  · exact ⟨h, rfl, rfl⟩
  · exact ⟨h2, rfl, rfl⟩
theorem sflush_ok {L : Lg} (h : L.ok) (S : Dsk) (s : Sl) (base : Nat) : (s.flush base L S).1.ok ∧ (s.flush base L S).1.first = L.first ∧ (s.flush base L S).1.n = L.n := by
  have a := lflush_ok h S (s.st : Int)
  unfold Sl.flush
  split
  · exact a
  · exact a
/-- A list's pages are written, one by one: all goes well, and what was dirty alone on the list is clean. -/
theorem Pv.flushL : ∀ (l : List Int) {P : Po} {S : Dsk} {L : Lg} {Now : Nat → Pg} {St : Nat → Nat}, Pv P S Now St → P.ok → L.ok → L.first + L.n ≤ P.base → l.Nodup → (∀ x, x ∈ l ↔ x ∈ dirtyL P.ss) →
    (flushL l P L S).2.2.2 = 0 ∧ Pv (flushL l P L S).1 (flushL l P L S).2.2.1 Now St ∧ (flushL l P L S).1.ok ∧ dirtyL (flushL l P L S).1.ss = [] ∧ (flushL l P L S).1.base = P.base ∧ (flushL l P L S).1.pages = P.pages ∧ (flushL l P L S).1.frames = P.frames
  | [], P, S, L, Now, St, h, hP, hL, hb, hn, hm => by
    refine ⟨rfl, h, hP, ?_, rfl, rfl, rfl⟩
    exact List.eq_nil_iff_forall_not_mem.2 fun x hx => absurd ((hm x).2 hx) List.not_mem_nil
  | x :: l, P, S, L, Now, St, h, hP, hL, hb, hn, hm => by
    obtain ⟨s0, hs0, hd0, hx0⟩ := dirtyL_mem.1 ((hm x).1 List.mem_cons_self)
    obtain ⟨j, hj, hf, hjid⟩ : ∃ (j : Nat) (hj : j < P.ss.length), findL x P.ss = (j : Int) ∧ (P.ss[j]).id = x := by
      rcases findL_cases x P.ss with ⟨-, hh⟩ | ⟨j, hj, h1, h2, -⟩
      · exact absurd hx0 (hh s0 hs0)
      · exact ⟨j, hj, h1, h2⟩
    have hx1 : x ≠ -1 := by
      have := (h.good s0 hs0).1
      omega
    have huni : ∀ t (ht : t < P.ss.length), (P.ss[t]).id = x → t = j := fun t ht e => Classical.byContradiction fun hne => by
      have := hP.one t j ht hj hne (by rw [e, hjid])
      rw [e] at this
      exact hx1 this
    have hdj : (P.ss[j]).di = true := by
      obtain ⟨t, ht, rfl⟩ := List.mem_iff_getElem.1 hs0
      have := huni t ht hx0
      subst this
      exact hd0
    obtain ⟨a, b, c⟩ := h.write hP hL hb hj hdj
    have hok := hP.clean hj
    have hLk := sflush_ok hL S (P.ss[j]) P.base
    rw [flushL_step hj hf, if_pos a]
    generalize (P.ss[j]).flush P.base L S = R at *
    obtain ⟨L2, S2, e2⟩ := R
    dsimp only at c hLk ⊢
    refine Pv.flushL l c hok hLk.1 (by rw [hLk.2.1, hLk.2.2]; exact hb) (List.nodup_cons.1 hn).2 fun y => ?_
    show y ∈ l ↔ y ∈ dirtyL (P.ss.set j _)
    rw [dirtyL_mem]
    constructor
    · intro hy
      have hyx : y ≠ x := fun e => (List.nodup_cons.1 hn).1 (e ▸ hy)
      obtain ⟨u, hu, hdu, hyu⟩ := dirtyL_mem.1 ((hm y).1 (List.mem_cons_of_mem _ hy))
      obtain ⟨t, ht, rfl⟩ := List.mem_iff_getElem.1 hu
      have htj : j ≠ t := fun e => hyx (by subst e; rw [← hyu, hjid])
      exact ⟨P.ss[t], List.mem_iff_getElem.2 ⟨t, by rw [List.length_set]; exact ht, List.getElem_set_ne htj _⟩, hdu, hyu⟩
    · rintro ⟨u, hu, hdu, hyu⟩
      obtain ⟨t, ht, rfl⟩ := List.mem_iff_getElem.1 hu
      have ht' : t < P.ss.length := by rw [List.length_set] at ht; exact ht
      by_cases e : j = t
      · subst e
        rw [List.getElem_set_self] at hdu
        cases hdu
      · rw [List.getElem_set_ne e] at hdu hyu
        have := (hm y).2 (dirtyL_mem.2 ⟨P.ss[t], List.getElem_mem ht', hdu, hyu⟩)
        rcases List.mem_cons.1 this with e3 | h4
        · exact absurd (huni t ht' (by rw [hyu, e3])).symm e
        · exact h4
/-- A blank sector is one of the zero page's. -/
theorem blank_sec : ∀ k, k < 4 → Fr.sec Pg.zero.bytes (Fr.mk 0) k = Fr.zs 64 := by
  intro k hk
  rcases Fr.four hk with rfl | rfl | rfl | rfl <;> decide +kernel
theorem Pv.new (base pages frames N : Nat) (hN : base + 4 * pages ≤ N) (S : Dsk) (hS : PRun S) (hn : S.now = blanks N) (hf : S.firm.length = N) : Pv ⟨base, pages, frames, [], 0⟩ S (fun _ => Pg.zero) (fun _ => 0) where
  run := hS
  nl := by rw [hn, hf]; simp [blanks]
  fit := by rw [hf]; exact hN
  dev := fun i hi => by
    change i < pages at hi
    refine ⟨Pg.zero, 0, ⟨⟨by unfold Pg.head Pg.zero; decide, fun i _ => .inl ⟨rfl, rfl⟩⟩, by omega, fun k hk => ?_⟩, .inl ⟨rfl, rfl⟩⟩
    rw [blank_sec k hk, hn]
    unfold blanks
    show (List.replicate N (Fr.zs 64)).getD (base + 4 * i + k) _ = _
    rw [List.getD_eq_getElem?_getD, List.getElem?_replicate, if_pos (by omega)]
    rfl
  sl := fun j s hs => by
    change ([] : List Sl)[j]? = some s at hs
    simp at hs
end Go.Proofs.Ytgafajbdmegfgaa
namespace Go.Proofs.Ytgafajbdmegfgaa
open Go.RowKit

theorem dirtyL_nodup : ∀ {l : List Sl}, (l.Pairwise fun a b => a.id ≠ b.id) → (dirtyL l).Nodup
  | [], _ => List.nodup_nil
  | s :: l, h => by
    rw [List.pairwise_cons] at h
    have ih := dirtyL_nodup h.2
    rw [dirtyL_cons]
    by_cases hd : s.di = true
    · rw [if_pos hd, List.nodup_cons]
      refine ⟨fun hx => ?_, ih⟩
      obtain ⟨t, ht, -, e⟩ := dirtyL_mem.1 hx
      exact h.1 t ht e.symm
    · rw [if_neg hd]; exact ih
theorem Pv.apart {P : Po} {S : Dsk} {Now : Nat → Pg} {St : Nat → Nat} (h : Pv P S Now St) (hP : P.ok) : P.ss.Pairwise fun a b => a.id ≠ b.id := by
  rw [List.pairwise_iff_getElem]
  intro i j hi hj hij e
  have h1 := hP.one i j hi hj (by omega) e
  have h2 := (h.good _ (List.getElem_mem hi)).1
  omega
theorem sortedD_nodup {P : Po} (h : (dirtyL P.ss).Nodup) : (sortedD P).Nodup := by
  unfold sortedD
  exact (List.mergeSort_perm _ _).nodup_iff.2 h
theorem sortedD_asc {P : Po} (h : (dirtyL P.ss).Nodup) : (sortedD P).Pairwise fun a b => a < b := by
  have h1 : (sortedD P).Pairwise fun a b => a ≤ b := by
    unfold sortedD
    have := List.pairwise_mergeSort (le := fun x y : Int => decide (x ≤ y)) (fun a b c h1 h2 => by simp at *; omega) (fun a b => by simp; omega) (dirtyL P.ss)
    exact this.imp fun h => by simpa using h
  have h2 := sortedD_nodup h
  rw [List.nodup_iff_pairwise_ne] at h2
  exact (List.Pairwise.and h1 h2).imp fun ⟨a, b⟩ => by omega
theorem pv_flushAll {P : Po} {S : Dsk} {L : Lg} {Now : Nat → Pg} {St : Nat → Nat} (h : Pv P S Now St) (hP : P.ok) (hL : L.ok) (hb : L.first + L.n ≤ P.base) :
    (flushAll P L S).2.2.2 = 0 ∧ Pv (flushAll P L S).1 (flushAll P L S).2.2.1 Now St ∧ (flushAll P L S).1.ok ∧ dirtyL (flushAll P L S).1.ss = [] ∧ (flushAll P L S).1.base = P.base ∧ (flushAll P L S).1.pages = P.pages ∧ (flushAll P L S).1.frames = P.frames ∧ (flushAll P L S).2.2.1.pend = [] := by
  obtain ⟨a, b, c, d, e1, e2, e3⟩ := Pv.flushL (sortedD P) h hP hL hb (sortedD_nodup (dirtyL_nodup (h.apart hP))) (fun x => by
    unfold sortedD
    exact (List.mergeSort_perm _ _).mem_iff)
  have ef : flushAll P L S = ((flushL (sortedD P) P L S).1, (flushL (sortedD P) P L S).2.1, (flushL (sortedD P) P L S).2.2.1.barrier) := by
    unfold flushAll
    exact if_pos a
  rw [ef]
  generalize flushL (sortedD P) P L S = R at *
  obtain ⟨P2, L2, S2, er⟩ := R
  dsimp only at a b c d e1 e2 e3 ⊢
  obtain ⟨q1, q2, q3, q4⟩ := pbarrier_run b.run
  refine ⟨q1, ?_, c, d, e1, e2, e3, q4⟩
  exact {
    run := q2.run
    nl := by rw [q2.nl, q2.fl]; exact b.nl
    fit := by rw [q2.fl]; exact b.fit
    dev := fun i hi => by
      obtain ⟨u, t, hat, hc⟩ := b.dev i hi
      exact ⟨u, t, hat.same (fun k hk => by rw [q3]), hc⟩
    sl := b.sl }
end Go.Proofs.Ytgafajbdmegfgaa
