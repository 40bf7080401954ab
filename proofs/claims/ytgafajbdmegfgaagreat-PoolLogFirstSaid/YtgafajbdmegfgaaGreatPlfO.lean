/- Layer 12, plain: what the device has of the pool's pages, while it runs. Layer 12, plain: a pool and what its pages are. Layer 12, plain: a write, a Put. Layer 12, plain: Flush; a new pool over a blank device. Layer 12, plain: Flush, whole. Layer 12: New; what is refused. Layer 12: Get and Put, refused. Layer 12: awake. Layer 12: calls that came in. Layer 12: a volume under way, told by what the laws see of it. Layer 12: awake, walked. -/
import Derived.Test.YtgafajbdmegfgaaGreatPolFlush
import Derived.Test.YtgafajbdmegfgaaGreatWalMake
import Derived.Test.YtgafajbdmegfgaaGreatPgCmp
import Derived.Test.YtgafajbdmegfgaaGreatRead
import Derived.Deep.MidRow
import Derived.Test.YtgafajbdmegfgaaGreatWalApp
import Derived.Test.YtgafajbdmegfgaaGreatMap
set_option linter.unusedVariables false
set_option linter.unusedSimpArgs false
set_option linter.unusedSectionVars false
namespace Go.Proofs.YtgafajbdmegfgaaGreat
open Go.RowKit

/-- A device that is up, without end. -/
def PRun (S : Dsk) : Prop := S.down = false ∧ S.fuel = -1
/-- What a step leaves of a device that runs: it runs on, as long as it was. -/
structure Goes (S S' : Dsk) : Prop where
  run : PRun S'
  fl : S'.firm.length = S.firm.length
  nl : S'.now.length = S.now.length
theorem Goes.refl {S : Dsk} (h : PRun S) : Goes S S := ⟨h, rfl, rfl⟩
theorem Goes.trans {a b c : Dsk} (h : Goes a b) (k : Goes b c) : Goes a c := ⟨k.run, k.fl.trans h.fl, k.nl.trans h.nl⟩
theorem pwrite_run {S : Dsk} (h : PRun S) (i : Nat) (d : ByteArray) (hi : i < S.firm.length) (hd : d.size = 64) :
    (S.write (i : Int) d).2 = 0 ∧ Goes S (S.write (i : Int) d).1 ∧ (S.write (i : Int) d).1.now = S.now.set i d := by
  have e : S.write (i : Int) d = (S.wrote i d, 0) := by
    unfold Dsk.write
    rw [if_neg (by rw [h.1]; decide), if_pos ⟨by omega, by omega, hd⟩, if_neg (by rw [h.2]; decide), Int.toNat_natCast]
  rw [e]
  refine ⟨rfl, ⟨⟨h.1, ?_⟩, rfl, by show (S.now.set i d).length = _; rw [List.length_set]⟩, rfl⟩
  show (if 0 < S.fuel then S.fuel - 1 else S.fuel) = -1
  rw [h.2]; decide
theorem pbarrier_run {S : Dsk} (h : PRun S) : S.barrier.2 = 0 ∧ Goes S S.barrier.1 ∧ S.barrier.1.now = S.now ∧ S.barrier.1.pend = [] := by
  have e : S.barrier = (S.synced, 0) := by
    unfold Dsk.barrier
    rw [if_neg (by rw [h.1]; decide), if_neg (by rw [h.2]; decide)]
  rw [e]
  refine ⟨rfl, ⟨⟨h.1, ?_⟩, apply_length _ _, rfl⟩, rfl, rfl⟩
  show (if 0 < S.fuel then S.fuel - 1 else S.fuel) = -1
  rw [h.2]; decide
theorem pgetD_set (l : List ByteArray) (i j : Nat) (d : ByteArray) (hi : i < l.length) : (l.set i d).getD j ⟨#[]⟩ = if j = i then d else l.getD j ⟨#[]⟩ := by
  rw [List.getD_eq_getElem?_getD, List.getD_eq_getElem?_getD, List.getElem?_set]
  by_cases e : j = i
  · subst e; rw [if_pos rfl, if_pos rfl, if_pos hi]; rfl
  · rw [if_neg (Ne.symm e), if_neg e]
theorem swr_run (s : Sl) (base : Nat) (hs : ∀ k, k < 4 → (s.sec k).size = 64) : ∀ (m k : Nat) (S : Dsk), PRun S → k + m ≤ 4 → base + 4 * s.id.toNat + 4 ≤ S.firm.length → S.now.length = S.firm.length →
    (s.wr base m k S).2 = 0 ∧ Goes S (s.wr base m k S).1 ∧ ∀ j, (s.wr base m k S).1.now.getD j ⟨#[]⟩ = if base + 4 * s.id.toNat + k ≤ j ∧ j < base + 4 * s.id.toNat + k + m then s.sec (j - (base + 4 * s.id.toNat)) else S.now.getD j ⟨#[]⟩
  | 0, k, S, hr, _, _, _ => ⟨rfl, .refl hr, fun j => by rw [if_neg (by omega)]; rfl⟩
  | m + 1, k, S, hr, hk, hf, hn => by
    obtain ⟨e0, hg, hnow⟩ := pwrite_run hr (base + 4 * s.id.toNat + k) (s.sec k) (by omega) (hs k (by omega))
    obtain ⟨a, b, c⟩ := swr_run s base hs m (k + 1) _ hg.run (by omega) (by rw [hg.fl]; exact hf) (by rw [hg.fl, hg.nl]; exact hn)
    unfold Sl.wr
    rw [if_pos e0]
    refine ⟨a, hg.trans b, fun j => ?_⟩
    rw [c j, hnow, pgetD_set _ _ _ _ (by omega)]
    by_cases h1 : j = base + 4 * s.id.toNat + k
    · subst h1
      rw [if_neg (by omega), if_pos rfl, if_pos (by omega)]
      congr 1; omega
    · rw [if_neg h1]
      by_cases h2 : base + 4 * s.id.toNat + (k + 1) ≤ j ∧ j < base + 4 * s.id.toNat + (k + 1) + m
      · rw [if_pos h2, if_pos (by omega)]
      · rw [if_neg h2, if_neg (by omega)]
theorem lwr_run (L : Lg) (h1 : 1 ≤ L.n) : ∀ (m k : Nat) (S : Dsk), PRun S → L.first + L.n ≤ S.firm.length → S.now.length = S.firm.length →
    (L.wr m k S).2 = 0 ∧ Goes S (L.wr m k S).1 ∧ ∀ j, L.first + L.n ≤ j → (L.wr m k S).1.now.getD j ⟨#[]⟩ = S.now.getD j ⟨#[]⟩
  | 0, k, S, hr, _, _ => ⟨rfl, .refl hr, fun j _ => rfl⟩
  | m + 1, k, S, hr, hf, hn => by
    have hm := Nat.mod_lt k (show 0 < L.n by omega)
    obtain ⟨e0, hg, hnow⟩ := pwrite_run hr (L.first + k % L.n) (L.sec k) (by omega) (L.sec_size k)
    obtain ⟨a, b, c⟩ := lwr_run L h1 m (k + 1) _ hg.run (by rw [hg.fl]; exact hf) (by rw [hg.fl, hg.nl]; exact hn)
    unfold Lg.wr
    rw [if_pos e0]
    refine ⟨a, hg.trans b, fun j hj => ?_⟩
    rw [c j hj, hnow, pgetD_set _ _ _ _ (by omega), if_neg (by omega)]
theorem lflush_run {L : Lg} (h : L.ok) {S : Dsk} (hr : PRun S) (hf : L.first + L.n ≤ S.firm.length) (hn : S.now.length = S.firm.length) (at_ : Int) :
    (L.flush S at_).2.2 = 0 ∧ Goes S (L.flush S at_).2.1 ∧ (∀ j, L.first + L.n ≤ j → (L.flush S at_).2.1.now.getD j ⟨#[]⟩ = S.now.getD j ⟨#[]⟩) ∧ (L.flush S at_).1.first = L.first ∧ (L.flush S at_).1.n = L.n ∧ (L.flush S at_).1.fin = L.fin ∧ ((L.flush S at_).2.1.pend.length ≤ S.pend.length) := by
  obtain ⟨a, b, c⟩ := lwr_run L (by have := h.n1; omega) L.rounds (L.firm / 54) S hr hf hn
  obtain ⟨d, e, f, g⟩ := pbarrier_run b.run
  unfold Lg.flush
  split
  · exact ⟨rfl, .refl hr, fun j _ => rfl, rfl, rfl, rfl, Nat.le_refl _⟩
  · rw [if_neg (by rw [a]; decide), if_neg (by rw [d]; decide)]
    exact ⟨d, b.trans e, fun j hj => by show (L.wr L.rounds (L.firm / 54) S).1.barrier.1.now.getD j ⟨#[]⟩ = _; rw [f]; exact c j hj, rfl, rfl, rfl, by show (L.wr L.rounds (L.firm / 54) S).1.barrier.1.pend.length ≤ _; rw [g]; exact Nat.zero_le _⟩
/-- Page i stands on the device, with that stamp. -/
structure PgAt (S : Dsk) (base i : Nat) (p : Pg) (t : Nat) : Prop where
  ok : p.ok
  tb : t < 18446744073709551616
  at_ : ∀ k, k < 4 → S.now.getD (base + 4 * i + k) ⟨#[]⟩ = Fr.sec p.bytes (Fr.mk t) k
theorem PgAt.same {S S' : Dsk} {base i : Nat} {p : Pg} {t : Nat} (h : PgAt S base i p t) (hs : ∀ k, k < 4 → S'.now.getD (base + 4 * i + k) ⟨#[]⟩ = S.now.getD (base + 4 * i + k) ⟨#[]⟩) : PgAt S' base i p t where
  ok := h.ok
  tb := h.tb
  at_ := fun k hk => (hs k hk).trans (h.at_ k hk)
theorem opened_same {s : Nat → ByteArray} {body mark : ByteArray} (hb : body.size = 224) (hm : mark.size = 8) (h : ∀ k, k < 4 → s k = Fr.sec body mark k) : Fr.opened s = (body, Oct.sval mark, 0) := by
  have h0 : s 0 = Fr.sec body mark 0 := h 0 (by omega)
  have t0 : Fr.tl (s 0) = mark := by rw [h0]; exact Fr.sec_tl hb (by omega)
  have h64 : ∀ i, i < 4 → (s i).size = 64 := fun k hk => by rw [h k hk]; exact Fr.sec_size hb hm hk
  have htl : ∀ i, i < 4 → Fr.tl (s i) = Fr.tl (s 0) := fun k hk => by
    rw [t0, h k hk]
    exact Fr.sec_tl hb hk
  have e := Fr.opened_ok h64 htl
  have hp : Fr.parts s = body := by
    refine Eq.trans ?_ (Fr.parts_sec (body := body) (mark := mark) hb)
    unfold Fr.parts
    rw [h0, h 1 (by omega), h 2 (by omega), h 3 (by omega)]
  rw [hp, t0] at e
  exact e
theorem PgAt.opened {S : Dsk} {base i : Nat} {p : Pg} {t : Nat} (h : PgAt S base i p t) : Fr.opened (secsOf S base i) = (p.bytes, t, 0) := by
  have hb : p.bytes.size = 224 := bytes_size p h.ok
  have hv : Oct.sval (Fr.mk t) = t := Fr.mk_val t h.tb
  have hs : ∀ k, k < 4 → secsOf S base i k = Fr.sec p.bytes (Fr.mk t) k := h.at_
  have e := opened_same hb (Fr.mk_size t) hs
  rw [hv] at e
  exact e
theorem PgAt.load {S : Dsk} {base i : Nat} {p : Pg} {t : Nat} (h : PgAt S base i p t) (hr : PRun S) : ∃ x, loadP S base i = (x, 0) ∧ x.cs = p.cs ∧ x.ok := by
  obtain ⟨g1, g2⟩ := good_bytes p h.ok
  have d1 : decErr p.bytes = 0 := by unfold decErr; exact if_pos g1
  have d2 : Pg.dec p.bytes = Pg.of p.bytes := by unfold Pg.dec; exact if_pos g1
  have hop := h.opened
  generalize p.bytes = body at *
  refine ⟨Pg.of body, ?_, g2, g1.2.1⟩
  unfold loadP
  rw [if_neg (by rw [hr.1]; decide), hop]
  dsimp only
  rw [if_pos rfl, d1, d2]
end Go.Proofs.YtgafajbdmegfgaaGreat
namespace Go.Proofs.YtgafajbdmegfgaaGreat
open Go.RowKit

/-- Between two calls: what each page is, and the place of its record. -/
structure Pv (P : Po) (S : Dsk) (Now : Nat → Pg) (St : Nat → Nat) : Prop where
  run : PRun S
  nl : S.now.length = S.firm.length
  fit : P.base + 4 * P.pages ≤ S.firm.length
  dev : ∀ i, i < P.pages → ∃ d t, PgAt S P.base i d t ∧ ((d.cs = (Now i).cs ∧ t = St i) ∨ ∃ (j : Nat) (s : Sl), P.ss[j]? = some s ∧ s.id = (i : Int) ∧ s.di = true)
  sl : ∀ (j : Nat) (s : Sl), P.ss[j]? = some s → ∃ i : Nat, i < P.pages ∧ s.id = (i : Int) ∧ s.p.cs = (Now i).cs ∧ s.p.ok ∧ (s.di = true → s.st = St i)
theorem Pv.good {P : Po} {S : Dsk} {Now : Nat → Pg} {St : Nat → Nat} (h : Pv P S Now St) : ∀ s ∈ P.ss, 0 ≤ s.id ∧ s.p.ok := fun s hs => by
  obtain ⟨j, hj, rfl⟩ := List.mem_iff_getElem.1 hs
  obtain ⟨i, hi, e, -, ok, -⟩ := h.sl j _ (List.getElem?_eq_getElem hj)
  exact ⟨by omega, ok⟩
theorem Sp.like {P P1 : Po} {i : Nat} {ok : Bool} (h : Sp P P1 i ok) {j : Nat} {s : Sl} (hs : P.ss[j]? = some s) : ∃ s', P1.ss[j]? = some s' ∧ likeS s' s := by
  obtain ⟨hj, e⟩ := List.getElem?_eq_some_iff.1 hs
  obtain ⟨hj', hl⟩ := h.same j hj
  exact ⟨P1.ss[j], List.getElem?_eq_getElem hj', by rw [← e]; exact hl⟩
theorem Sp.old {P P1 : Po} {i : Nat} {ok : Bool} (h : Sp P P1 i ok) {j : Nat} {s' : Sl} (hs : P1.ss[j]? = some s') (hne : ok = true → j ≠ i) : ∃ s, P.ss[j]? = some s ∧ likeS s' s := by
  obtain ⟨hj', e⟩ := List.getElem?_eq_some_iff.1 hs
  have hj : j < P.ss.length := by
    rcases h.new with e1 | ⟨e1, e2, e3, -⟩
    · omega
    · have := hne e2
      omega
  obtain ⟨_, hl⟩ := h.same j hj
  exact ⟨P.ss[j], List.getElem?_eq_getElem hj, by rw [← e]; exact hl⟩
/-- A slot that could be had is laid over. -/
theorem Pv.lay {P P1 : Po} {S : Dsk} {Now Now' : Nat → Pg} {St St' : Nat → Nat} (h : Pv P S Now St) {i : Nat} (hsp : Sp P P1 i true) (hi : i < P1.ss.length) (s : Sl) (k : Nat) (hk : k < P.pages) (hno : ∀ t ∈ P.ss, t.id ≠ (k : Int))
    (h1 : s.id = (k : Int)) (h2 : s.p.cs = (Now' k).cs) (h3 : s.p.ok) (h4 : s.di = true → s.st = St' k) (hoth : ∀ m, m ≠ k → Now' m = Now m ∧ St' m = St m) (hcl : s.di = false → Now' k = Now k ∧ St' k = St k) :
    Pv { P1 with ss := P1.ss.set i s } S Now' St' where
  run := h.run
  nl := h.nl
  fit := by show P1.base + 4 * P1.pages ≤ _; rw [hsp.base, hsp.pages]; exact h.fit
  dev := fun m hm => by
    change m < P1.pages at hm
    rw [hsp.pages] at hm
    obtain ⟨d, t, hat, hc⟩ := h.dev m hm
    refine ⟨d, t, by show PgAt S P1.base m d t; rw [hsp.base]; exact hat, ?_⟩
    by_cases e : m = k
    · subst e
      rcases hd : s.di with _ | _
      · obtain ⟨e1, e2⟩ := hcl hd
        rw [e1, e2]
        rcases hc with hc | ⟨j, u, hu, hid, -⟩
        · exact .inl hc
        · exact absurd hid (hno u (List.mem_of_getElem? hu))
      · exact .inr ⟨i, s, by show (P1.ss.set i s)[i]? = _; rw [List.getElem?_set_self hi], h1, hd⟩
    · obtain ⟨e1, e2⟩ := hoth m e
      rw [e1, e2]
      rcases hc with hc | ⟨j, u, hu, hid, hd⟩
      · exact .inl hc
      · obtain ⟨u', hu', hl⟩ := hsp.like hu
        have hji : i ≠ j := fun e3 => by
          subst e3
          have hf := hsp.free rfl hi
          rw [List.getElem?_eq_getElem hi] at hu'
          injection hu' with hu'
          rw [hu', hl.2.2.2, hd] at hf
          cases hf
        exact .inr ⟨j, u', by show (P1.ss.set i s)[j]? = _; rw [List.getElem?_set_ne hji]; exact hu', hl.1.trans hid, hl.2.2.2.trans hd⟩
  sl := fun j u hu => by
    change (P1.ss.set i s)[j]? = some u at hu
    by_cases e : i = j
    · subst e
      rw [List.getElem?_set_self hi] at hu
      injection hu with hu
      subst hu
      exact ⟨k, by show k < P1.pages; rw [hsp.pages]; exact hk, h1, h2, h3, h4⟩
    · rw [List.getElem?_set_ne e] at hu
      obtain ⟨v, hv, hl⟩ := hsp.old hu (fun _ => Ne.symm e)
      obtain ⟨m, hm, e1, e2, e3, e4⟩ := h.sl j v hv
      have hmk : m ≠ k := fun e5 => hno v (List.mem_of_getElem? hv) (by rw [e1, e5])
      obtain ⟨n1, n2⟩ := hoth m hmk
      exact ⟨m, by show m < P1.pages; rw [hsp.pages]; exact hm, hl.1.trans e1, by rw [hl.2.1, n1]; exact e2, by rw [hl.2.1]; exact e3, fun hd => by rw [hl.2.2.1, n2]; exact e4 (by rw [← hl.2.2.2]; exact hd)⟩
/-- No slot could be had. -/
theorem Pv.spare_no {P P1 : Po} {S : Dsk} {Now : Nat → Pg} {St : Nat → Nat} (h : Pv P S Now St) {i : Nat} (hsp : Sp P P1 i false) : Pv P1 S Now St where
  run := h.run
  nl := h.nl
  fit := by rw [hsp.base, hsp.pages]; exact h.fit
  dev := fun m hm => by
    rw [hsp.pages] at hm
    obtain ⟨d, t, hat, hc⟩ := h.dev m hm
    refine ⟨d, t, by rw [hsp.base]; exact hat, ?_⟩
    rcases hc with hc | ⟨j, u, hu, hid, hd⟩
    · exact .inl hc
    · obtain ⟨u', hu', hl⟩ := hsp.like hu
      exact .inr ⟨j, u', hu', hl.1.trans hid, hl.2.2.2.trans hd⟩
  sl := fun j u hu => by
    obtain ⟨v, hv, hl⟩ := hsp.old hu (fun e => by cases e)
    obtain ⟨m, hm, e1, e2, e3, e4⟩ := h.sl j v hv
    exact ⟨m, by rw [hsp.pages]; exact hm, hl.1.trans e1, by rw [hl.2.1]; exact e2, by rw [hl.2.1]; exact e3, fun hd => by rw [hl.2.2.1]; exact e4 (by rw [← hl.2.2.2]; exact hd)⟩
/-- What Get answers. -/
theorem Pv.get {P P' : Po} {S : Dsk} {Now : Nat → Pg} {St : Nat → Nat} (h : Pv P S Now St) {id : Nat} (hid : id < P.pages) {x : Pg} {er : Int} (hr : GetRel P S id P' x er) : er = 0 ∧ x.cs = (Now id).cs ∧ Pv P' S Now St ∧ P'.base = P.base ∧ P'.pages = P.pages ∧ P'.frames = P.frames := by
  rcases hr with ⟨j, hj, hjid, rfl, rfl, rfl⟩ | ⟨hno, hl, -, -, -⟩ | ⟨hno, hl, rfl, P1, i, ok, hsp, hc⟩
  · obtain ⟨m, hm, e1, e2, e3, e4⟩ := h.sl j _ (List.getElem?_eq_getElem hj)
    obtain rfl : m = id := by omega
    refine ⟨rfl, e2, ?_, rfl, rfl, rfl⟩
    exact {
      run := h.run, nl := h.nl, fit := h.fit
      dev := fun q hq => by
        obtain ⟨d, t, hat, hc⟩ := h.dev q hq
        refine ⟨d, t, hat, ?_⟩
        rcases hc with hc | ⟨k, u, hu, hid, hd⟩
        · exact .inl hc
        · by_cases e : j = k
          · subst e
            rw [List.getElem?_eq_getElem hj] at hu
            injection hu with hu
            exact .inr ⟨j, { P.ss[j] with us := true }, by show (P.ss.set j _)[j]? = _; rw [List.getElem?_set_self hj], by rw [← hid, ← hu], by rw [← hd, ← hu]⟩
          · exact .inr ⟨k, u, by show (P.ss.set j _)[k]? = _; rw [List.getElem?_set_ne e]; exact hu, hid, hd⟩
      sl := fun k u hu => by
        change (P.ss.set j _)[k]? = some u at hu
        by_cases e : j = k
        · subst e
          rw [List.getElem?_set_self hj] at hu
          injection hu with hu
          subst hu
          exact ⟨m, hm, e1, e2, e3, e4⟩
        · rw [List.getElem?_set_ne e] at hu
          exact h.sl k u hu }
  · obtain ⟨d, t, hat, -⟩ := h.dev id hid
    obtain ⟨y, hy, -, -⟩ := hat.load h.run
    rw [hy] at hl
    exact absurd rfl hl
  · obtain ⟨d, t, hat, hc2⟩ := h.dev id hid
    obtain ⟨y, hy, hyc, hyo⟩ := hat.load h.run
    obtain rfl : y = x := by rw [hy] at hl; injection hl
    have hnow : d.cs = (Now id).cs := by
      rcases hc2 with hc2 | ⟨j, u, hu, hid2, -⟩
      · exact hc2.1
      · exact absurd hid2 (hno u (List.mem_of_getElem? hu))
    rcases hc with ⟨rfl, rfl⟩ | ⟨rfl, hi, rfl⟩
    · exact ⟨rfl, hyc.trans hnow, h.spare_no hsp, hsp.base, hsp.pages, hsp.frames⟩
    · refine ⟨rfl, hyc.trans hnow, h.lay hsp hi _ id hid hno rfl (hyc.trans hnow) hyo (fun e => by cases e) (fun _ _ => ⟨rfl, rfl⟩) (fun _ => ⟨rfl, rfl⟩), hsp.base, hsp.pages, hsp.frames⟩
end Go.Proofs.YtgafajbdmegfgaaGreat
namespace Go.Proofs.YtgafajbdmegfgaaGreat
open Go.RowKit

theorem Pv.hand {P : Po} {S : Dsk} {Now : Nat → Pg} {St : Nat → Nat} (h : Pv P S Now St) (n : Nat) : Pv { P with hand := n } S Now St := ⟨h.run, h.nl, h.fit, h.dev, h.sl⟩
theorem sl_sec_size {s : Sl} (h : s.p.ok) : ∀ k, k < 4 → (s.sec k).size = 64 := fun k hk => Fr.sec_size (bytes_size s.p h) (Fr.mk_size _) hk
/-- A slot's page goes to the device. -/
theorem Pv.write {P : Po} {S : Dsk} {L : Lg} {Now : Nat → Pg} {St : Nat → Nat} (h : Pv P S Now St) (hP : P.ok) (hL : L.ok) (hfb : L.first + L.n ≤ P.base) {i : Nat} (hi : i < P.ss.length) (hd : (P.ss[i]).di = true) :
    ((P.ss[i]).flush P.base L S).2.2 = 0 ∧ Goes S ((P.ss[i]).flush P.base L S).2.1 ∧ Pv { P with ss := P.ss.set i { P.ss[i] with di := false } } ((P.ss[i]).flush P.base L S).2.1 Now St := by
  obtain ⟨k, hk, e1, e2, e3, e4⟩ := h.sl i _ (List.getElem?_eq_getElem hi)
  have hst := hP.stb _ (List.getElem_mem hi)
  have hone := fun j hj (hne : i ≠ j) => hP.one i j hi hj hne
  generalize hs : P.ss[i] = s at *
  have hfit := h.fit
  obtain ⟨a, b, c, -, -, -, -⟩ := lflush_run hL h.run (by omega) h.nl (s.st : Int)
  have hidn : s.id.toNat = k := by omega
  obtain ⟨a2, b2, c2⟩ := swr_run s P.base (sl_sec_size e3) 4 0 _ b.run (by omega) (by rw [b.fl, hidn]; omega) (by rw [b.fl, b.nl]; exact h.nl)
  have ef : s.flush P.base L S = ((L.flush S (s.st : Int)).1, s.wr P.base 4 0 (L.flush S (s.st : Int)).2.1) := by
    unfold Sl.flush; exact if_pos a
  rw [ef]
  have hg := b.trans b2
  refine ⟨a2, hg, ?_⟩
  have hold : ∀ m, m < P.pages → m ≠ k → ∀ q, q < 4 → (s.wr P.base 4 0 (L.flush S (s.st : Int)).2.1).1.now.getD (P.base + 4 * m + q) ⟨#[]⟩ = S.now.getD (P.base + 4 * m + q) ⟨#[]⟩ := fun m hm hmk q hq => by
    rw [c2, if_neg (by rw [hidn]; omega)]
    exact c _ (by omega)
  exact {
    run := hg.run
    nl := by show (s.wr P.base 4 0 (L.flush S (s.st : Int)).2.1).1.now.length = _; rw [hg.nl, hg.fl]; exact h.nl
    fit := by show P.base + 4 * P.pages ≤ (s.wr P.base 4 0 (L.flush S (s.st : Int)).2.1).1.firm.length; rw [hg.fl]; exact h.fit
    dev := fun m hm => by
      change m < P.pages at hm
      by_cases e : m = k
      · subst e
        refine ⟨s.p, s.st, ⟨e3, by omega, fun q hq => ?_⟩, .inl ⟨e2, e4 hd⟩⟩
        show (s.wr P.base 4 0 (L.flush S (s.st : Int)).2.1).1.now.getD (P.base + 4 * m + q) ⟨#[]⟩ = _
        rw [c2, hidn, if_pos (by omega), show P.base + 4 * m + q - (P.base + 4 * m) = q by omega]
        rfl
      · obtain ⟨d, t, hat, hc⟩ := h.dev m hm
        refine ⟨d, t, hat.same (hold m hm e), ?_⟩
        rcases hc with hc | ⟨j, u, hu, hid, hdu⟩
        · exact .inl hc
        · have hij : i ≠ j := fun e5 => by
            subst e5
            rw [List.getElem?_eq_getElem hi, hs] at hu
            injection hu with hu
            subst hu
            rw [e1] at hid
            omega
          exact .inr ⟨j, u, by show (P.ss.set i _)[j]? = _; rw [List.getElem?_set_ne hij]; exact hu, hid, hdu⟩
    sl := fun j u hu => by
      change (P.ss.set i _)[j]? = some u at hu
      by_cases e : i = j
      · subst e
        rw [List.getElem?_set_self hi] at hu
        injection hu with hu
        subst hu
        exact ⟨k, hk, e1, e2, e3, fun hx => by cases hx⟩
      · rw [List.getElem?_set_ne e] at hu
        exact h.sl j u hu }
def updN {α : Type} (f : Nat → α) (k : Nat) (x : α) : Nat → α := fun m => if m = k then x else f m
theorem updN_at {α : Type} (f : Nat → α) (k : Nat) (x : α) : updN f k x k = x := if_pos rfl
theorem updN_ne {α : Type} (f : Nat → α) {k m : Nat} (x : α) (h : m ≠ k) : updN f k x m = f m := if_neg h
theorem Sp.here {P : Po} (h : P.ok) {i : Nat} (hi : i < P.ss.length) (hc : (P.ss[i]).di = false) : Sp P P i true where
  base := rfl
  pages := rfl
  frames := rfl
  lt := .inl hi
  hl := fun e => by cases e
  same := fun j hj => ⟨hj, .refl _⟩
  new := .inl rfl
  free := fun _ _ => hc
  full := fun e => by cases e
  ok' := h
/-- The slot that has a page is laid over. -/
theorem Pv.over {P : Po} {S : Dsk} {Now : Nat → Pg} {St : Nat → Nat} (h : Pv P S Now St) (hP : P.ok) {j : Nat} (hj : j < P.ss.length) (k : Nat) (hk : k < P.pages) (hid : (P.ss[j]).id = (k : Int)) (x : Pg) (hx : x.ok) (st : Nat) :
    Pv { P with ss := P.ss.set j ⟨k, x, st, true, true⟩ } S (updN Now k x) (updN St k st) where
  run := h.run
  nl := h.nl
  fit := h.fit
  dev := fun m hm => by
    obtain ⟨d, t, hat, hc⟩ := h.dev m hm
    refine ⟨d, t, hat, ?_⟩
    by_cases e : m = k
    · subst e
      exact .inr ⟨j, ⟨m, x, st, true, true⟩, by show (P.ss.set j _)[j]? = _; rw [List.getElem?_set_self hj], rfl, rfl⟩
    · rw [updN_ne _ _ e, updN_ne _ _ e]
      rcases hc with hc | ⟨q, u, hu, hq, hd⟩
      · exact .inl hc
      · have hne : j ≠ q := fun e5 => by
          subst e5
          rw [List.getElem?_eq_getElem hj] at hu
          injection hu with hu
          rw [hu, hq] at hid
          omega
        exact .inr ⟨q, u, by show (P.ss.set j _)[q]? = _; rw [List.getElem?_set_ne hne]; exact hu, hq, hd⟩
  sl := fun q u hu => by
    change (P.ss.set j _)[q]? = some u at hu
    by_cases e : j = q
    · subst e
      rw [List.getElem?_set_self hj] at hu
      injection hu with hu
      subst hu
      exact ⟨k, hk, rfl, by rw [updN_at], hx, fun _ => by rw [updN_at]⟩
    · rw [List.getElem?_set_ne e] at hu
      obtain ⟨m, hm, e1, e2, e3, e4⟩ := h.sl q u hu
      have hmk : m ≠ k := fun e5 => by
        obtain ⟨hq, e6⟩ := List.getElem?_eq_some_iff.1 hu
        have := hP.one j q hj hq e (by rw [hid, e6, e1, e5])
        omega
      exact ⟨m, hm, e1, by rw [updN_ne _ _ hmk]; exact e2, e3, fun hd => by rw [updN_ne _ _ hmk]; exact e4 hd⟩
/-- What Put does. -/
theorem Pv.put {P P' : Po} {S S' : Dsk} {L L' : Lg} {Now : Nat → Pg} {St : Nat → Nat} (h : Pv P S Now St) (hP : P.ok) (hL : L.ok) (hfb : L.first + L.n ≤ P.base) {id : Nat} (hid : id < P.pages) {x : Pg} (hx : x.ok) {st : Nat} {er : Int} (hr : PutRel P L S id x st P' L' S' er) :
    er = 0 ∧ Pv P' S' (updN Now id x) (updN St id st) ∧ P'.base = P.base ∧ P'.pages = P.pages ∧ P'.frames = P.frames := by
  rcases hr with ⟨j, hj, hjid, rfl, rfl, rfl, rfl⟩ | ⟨hno, P1, i, hroom, hi, rfl⟩
  · exact ⟨rfl, h.over hP hj id hid hjid x hx st, rfl, rfl, rfl⟩
  · rcases hroom with ⟨ok, hsp, rfl, rfl, rfl, rfl⟩ | ⟨P2, k, hi2, hsp, hih, hfl, rfl⟩
    · rw [if_pos rfl]
      exact ⟨rfl, h.lay hsp hi _ id hid hno rfl (by rw [updN_at]) hx (fun _ => by rw [updN_at]) (fun m hm => ⟨updN_ne _ _ hm, updN_ne _ _ hm⟩) (fun e => by cases e), hsp.base, hsp.pages, hsp.frames⟩
    · have h2 := h.spare_no hsp
      have hd := hsp.full rfl i hi2
      obtain ⟨a, b, c⟩ := h2.write hsp.ok' hL (by rw [hsp.base]; exact hfb) hi2 hd
      rw [← hfl] at a b c
      dsimp only at a b c
      subst a
      have hno2 := hsp.ids hno (by omega)
      have c2 := c.hand ((i + 1) % P2.ss.length)
      rw [if_pos rfl]
      dsimp only
      rw [if_pos rfl]
      have hiw : i < (P2.ss.set i { P2.ss[i] with di := false }).length := by rw [List.length_set]; exact hi2
      have hno3 : ∀ t ∈ (P2.ss.set i { P2.ss[i] with di := false }), t.id ≠ (id : Int) := fun t ht => by
        rcases List.mem_or_eq_of_mem_set ht with h5 | rfl
        · exact hno2 t h5
        · have h6 := hno2 _ (List.getElem_mem hi2)
          exact h6
      have okw : Po.ok { P2 with hand := (i + 1) % P2.ss.length, ss := P2.ss.set i { P2.ss[i] with di := false } } := by
        have q1 := hsp.ok'.ids _ (List.getElem_mem hi2)
        have q2 := hsp.ok'.stb _ (List.getElem_mem hi2)
        have q := hsp.ok'.set hi2 { P2.ss[i] with di := false } q1 q2 (fun j hj hne e => by
          have := hsp.ok'.one i j hi2 hj (Ne.symm hne) e.symm
          exact this)
        exact { q with hand := .inr (by show (i + 1) % P2.ss.length < (P2.ss.set i _).length; rw [List.length_set]; exact Nat.mod_lt _ (by omega)) }
      have hsp2 := Sp.here okw (i := i) hiw (by show ((P2.ss.set i _)[i]'hiw).di = false; rw [List.getElem_set_self])
      exact ⟨rfl, c2.lay hsp2 hiw _ id (by show id < P2.pages; rw [hsp.pages]; exact hid) hno3 rfl (by rw [updN_at]) hx (fun _ => by rw [updN_at]) (fun m hm => ⟨updN_ne _ _ hm, updN_ne _ _ hm⟩) (fun e => by cases e), hsp.base, hsp.pages, hsp.frames⟩
end Go.Proofs.YtgafajbdmegfgaaGreat
namespace Go.Proofs.YtgafajbdmegfgaaGreat
open Go.RowKit

theorem Po.ok.clean {P : Po} (h : P.ok) {i : Nat} (hi : i < P.ss.length) : Po.ok { P with ss := P.ss.set i { P.ss[i] with di := false } } := by
  have q1 := h.ids _ (List.getElem_mem hi)
  have q2 := h.stb _ (List.getElem_mem hi)
  exact h.set hi { P.ss[i] with di := false } q1 q2 (fun j hj hne e => h.one i j hi hj (Ne.symm hne) e.symm)
theorem lflush_ok {L : Lg} (h : L.ok) (S : Dsk) (at_ : Int) : (L.flush S at_).1.ok ∧ (L.flush S at_).1.first = L.first ∧ (L.flush S at_).1.n = L.n := by
  have h2 : ({ L with firm := L.fin } : Lg).ok := { h with sf := Nat.le_trans h.sf h.fe, fe := Nat.le_refl _ }
  unfold Lg.flush
  split
  · exact ⟨h, rfl, rfl⟩
  split
  · exact ⟨h, rfl, rfl⟩
  split
  · exact ⟨h, rfl, rfl⟩
  · exact ⟨h2, rfl, rfl⟩
theorem sflush_ok {L : Lg} (h : L.ok) (S : Dsk) (s : Sl) (base : Nat) : (s.flush base L S).1.ok ∧ (s.flush base L S).1.first = L.first ∧ (s.flush base L S).1.n = L.n := by
  have a := lflush_ok h S (s.st : Int)
  unfold Sl.flush
  split
  · exact a
  · exact a
/-- A list's pages are written, one by one: all goes well, and what was dirty alone on the list is clean. -/
theorem Pv.flushL : ∀ (l : List Int) {P : Po} {S : Dsk} {L : Lg} {Now : Nat → Pg} {St : Nat → Nat}, Pv P S Now St → P.ok → L.ok → L.first + L.n ≤ P.base → l.Nodup → (∀ x, x ∈ l ↔ x ∈ dirtyL P.ss) →
    (flushL l P L S).2.2.2 = 0 ∧ Pv (flushL l P L S).1 (flushL l P L S).2.2.1 Now St ∧ (flushL l P L S).1.ok ∧ dirtyL (flushL l P L S).1.ss = [] ∧ (flushL l P L S).1.base = P.base ∧ (flushL l P L S).1.pages = P.pages ∧ (flushL l P L S).1.frames = P.frames
  | [], P, S, L, Now, St, h, hP, hL, hb, hn, hm => by
    refine ⟨rfl, h, hP, ?_, rfl, rfl, rfl⟩
    exact List.eq_nil_iff_forall_not_mem.2 fun x hx => absurd ((hm x).2 hx) List.not_mem_nil
  | x :: l, P, S, L, Now, St, h, hP, hL, hb, hn, hm => by
    obtain ⟨s0, hs0, hd0, hx0⟩ := dirtyL_mem.1 ((hm x).1 List.mem_cons_self)
    obtain ⟨j, hj, hf, hjid⟩ : ∃ (j : Nat) (hj : j < P.ss.length), findL x P.ss = (j : Int) ∧ (P.ss[j]).id = x := by
      rcases findL_cases x P.ss with ⟨-, hh⟩ | ⟨j, hj, h1, h2, -⟩
      · exact absurd hx0 (hh s0 hs0)
      · exact ⟨j, hj, h1, h2⟩
    have hx1 : x ≠ -1 := by
      have := (h.good s0 hs0).1
      omega
    have huni : ∀ t (ht : t < P.ss.length), (P.ss[t]).id = x → t = j := fun t ht e => Classical.byContradiction fun hne => by
      have := hP.one t j ht hj hne (by rw [e, hjid])
      rw [e] at this
      exact hx1 this
    have hdj : (P.ss[j]).di = true := by
      obtain ⟨t, ht, rfl⟩ := List.mem_iff_getElem.1 hs0
      have := huni t ht hx0
      subst this
      exact hd0
    obtain ⟨a, b, c⟩ := h.write hP hL hb hj hdj
    have hok := hP.clean hj
    have hLk := sflush_ok hL S (P.ss[j]) P.base
    rw [flushL_step hj hf, if_pos a]
    generalize (P.ss[j]).flush P.base L S = R at *
    obtain ⟨L2, S2, e2⟩ := R
    dsimp only at c hLk ⊢
    refine Pv.flushL l c hok hLk.1 (by rw [hLk.2.1, hLk.2.2]; exact hb) (List.nodup_cons.1 hn).2 fun y => ?_
    show y ∈ l ↔ y ∈ dirtyL (P.ss.set j _)
    rw [dirtyL_mem]
    constructor
    · intro hy
      have hyx : y ≠ x := fun e => (List.nodup_cons.1 hn).1 (e ▸ hy)
      obtain ⟨u, hu, hdu, hyu⟩ := dirtyL_mem.1 ((hm y).1 (List.mem_cons_of_mem _ hy))
      obtain ⟨t, ht, rfl⟩ := List.mem_iff_getElem.1 hu
      have htj : j ≠ t := fun e => hyx (by subst e; rw [← hyu, hjid])
      exact ⟨P.ss[t], List.mem_iff_getElem.2 ⟨t, by rw [List.length_set]; exact ht, List.getElem_set_ne htj _⟩, hdu, hyu⟩
    · rintro ⟨u, hu, hdu, hyu⟩
      obtain ⟨t, ht, rfl⟩ := List.mem_iff_getElem.1 hu
      have ht' : t < P.ss.length := by rw [List.length_set] at ht; exact ht
      by_cases e : j = t
      · subst e
        rw [List.getElem_set_self] at hdu
        cases hdu
      · rw [List.getElem_set_ne e] at hdu hyu
        have := (hm y).2 (dirtyL_mem.2 ⟨P.ss[t], List.getElem_mem ht', hdu, hyu⟩)
        rcases List.mem_cons.1 this with e3 | h4
        · exact absurd (huni t ht' (by rw [hyu, e3])).symm e
        · exact h4
/-- A blank sector is one of the zero page's. -/
theorem blank_sec : ∀ k, k < 4 → Fr.sec Pg.zero.bytes (Fr.mk 0) k = Fr.zs 64 := by
  intro k hk
  rcases Fr.four hk with rfl | rfl | rfl | rfl <;> decide +kernel
theorem Pv.new (base pages frames N : Nat) (hN : base + 4 * pages ≤ N) (S : Dsk) (hS : PRun S) (hn : S.now = blanks N) (hf : S.firm.length = N) : Pv ⟨base, pages, frames, [], 0⟩ S (fun _ => Pg.zero) (fun _ => 0) where
  run := hS
  nl := by rw [hn, hf]; simp [blanks]
  fit := by rw [hf]; exact hN
  dev := fun i hi => by
    change i < pages at hi
    refine ⟨Pg.zero, 0, ⟨⟨by unfold Pg.head Pg.zero; decide, fun i _ => .inl ⟨rfl, rfl⟩⟩, by omega, fun k hk => ?_⟩, .inl ⟨rfl, rfl⟩⟩
    rw [blank_sec k hk, hn]
    unfold blanks
    show (List.replicate N (Fr.zs 64)).getD (base + 4 * i + k) _ = _
    rw [List.getD_eq_getElem?_getD, List.getElem?_replicate, if_pos (by omega)]
    rfl
  sl := fun j s hs => by
    change ([] : List Sl)[j]? = some s at hs
    simp at hs
end Go.Proofs.YtgafajbdmegfgaaGreat
namespace Go.Proofs.YtgafajbdmegfgaaGreat
open Go.RowKit

theorem dirtyL_nodup : ∀ {l : List Sl}, (l.Pairwise fun a b => a.id ≠ b.id) → (dirtyL l).Nodup
  | [], _ => List.nodup_nil
  | s :: l, h => by
    rw [List.pairwise_cons] at h
    have ih := dirtyL_nodup h.2
    rw [dirtyL_cons]
    by_cases hd : s.di = true
    · rw [if_pos hd, List.nodup_cons]
      refine ⟨fun hx => ?_, ih⟩
      obtain ⟨t, ht, -, e⟩ := dirtyL_mem.1 hx
      exact h.1 t ht e.symm
    · rw [if_neg hd]; exact ih
theorem Pv.apart {P : Po} {S : Dsk} {Now : Nat → Pg} {St : Nat → Nat} (h : Pv P S Now St) (hP : P.ok) : P.ss.Pairwise fun a b => a.id ≠ b.id := by
  rw [List.pairwise_iff_getElem]
  intro i j hi hj hij e
  have h1 := hP.one i j hi hj (by omega) e
  have h2 := (h.good _ (List.getElem_mem hi)).1
  omega
theorem sortedD_nodup {P : Po} (h : (dirtyL P.ss).Nodup) : (sortedD P).Nodup := by
  unfold sortedD
  exact (List.mergeSort_perm _ _).nodup_iff.2 h
theorem sortedD_asc {P : Po} (h : (dirtyL P.ss).Nodup) : (sortedD P).Pairwise fun a b => a < b := by
  have h1 : (sortedD P).Pairwise fun a b => a ≤ b := by
    unfold sortedD
    have := List.pairwise_mergeSort (le := fun x y : Int => decide (x ≤ y)) (fun a b c h1 h2 => by simp at *; omega) (fun a b => by simp; omega) (dirtyL P.ss)
    exact this.imp fun h => by simpa using h
  have h2 := sortedD_nodup h
  rw [List.nodup_iff_pairwise_ne] at h2
  exact (List.Pairwise.and h1 h2).imp fun ⟨a, b⟩ => by omega
theorem pv_flushAll {P : Po} {S : Dsk} {L : Lg} {Now : Nat → Pg} {St : Nat → Nat} (h : Pv P S Now St) (hP : P.ok) (hL : L.ok) (hb : L.first + L.n ≤ P.base) :
    (flushAll P L S).2.2.2 = 0 ∧ Pv (flushAll P L S).1 (flushAll P L S).2.2.1 Now St ∧ (flushAll P L S).1.ok ∧ dirtyL (flushAll P L S).1.ss = [] ∧ (flushAll P L S).1.base = P.base ∧ (flushAll P L S).1.pages = P.pages ∧ (flushAll P L S).1.frames = P.frames ∧ (flushAll P L S).2.2.1.pend = [] := by
  obtain ⟨a, b, c, d, e1, e2, e3⟩ := Pv.flushL (sortedD P) h hP hL hb (sortedD_nodup (dirtyL_nodup (h.apart hP))) (fun x => by
    unfold sortedD
    exact (List.mergeSort_perm _ _).mem_iff)
  have ef : flushAll P L S = ((flushL (sortedD P) P L S).1, (flushL (sortedD P) P L S).2.1, (flushL (sortedD P) P L S).2.2.1.barrier) := by
    unfold flushAll
    exact if_pos a
  rw [ef]
  generalize flushL (sortedD P) P L S = R at *
  obtain ⟨P2, L2, S2, er⟩ := R
  dsimp only at a b c d e1 e2 e3 ⊢
  obtain ⟨q1, q2, q3, q4⟩ := pbarrier_run b.run
  refine ⟨q1, ?_, c, d, e1, e2, e3, q4⟩
  exact {
    run := q2.run
    nl := by rw [q2.nl, q2.fl]; exact b.nl
    fit := by rw [q2.fl]; exact b.fit
    dev := fun i hi => by
      obtain ⟨u, t, hat, hc⟩ := b.dev i hi
      exact ⟨u, t, hat.same (fun k hk => by rw [q3]), hc⟩
    sl := b.sl }
end Go.Proofs.YtgafajbdmegfgaaGreat
namespace Go.Proofs.YtgafajbdmegfgaaGreat
open Go.RowKit

set_option maxRecDepth 100000 in
set_option maxHeartbeats 4000000 in
theorem pnew_good {w : World} {B : Nat} {I : Wd} {L : Lg} {S : Dsk} (hW : Wl w B I L S) (base pages frames : Nat) (h1 : 1 ≤ pages) (h2 : pages ≤ 1024) (h3 : 4 ≤ frames) (h4 : frames ≤ 256) (hfit : base + 4 * pages ≤ S.firm.length) (hB : B ≤ w.heap.size) :
    Calls Tryz.prog 7 #[I.d.ptr, I.ptr, .int .i64 (base : Int), .int .i64 (pages : Int), .int .i64 (frames : Int)] w fun e w' =>
      ∃ g, e = .returned (.tuple #[.pointer (some ⟨g, 0, none⟩), .int .i64 0]) ∧ Pq w' B ⟨g, .slice none 0 0, [], I.d.ptr, I.ptr⟩ ⟨base, pages, frames, [], 0⟩ ∧ Below w.heap.size w w' := by
  have CS := Lib.hid (size_any hW.dsk)
  have most := hW.dsk.ok.most
  obtain ⟨m, hm⟩ : ∃ m, m = S.firm.length := ⟨_, rfl⟩
  rw [← hm] at CS most hfit
  have a1 : ¬ (pages : Int) < 1 := by omega
  have a2 : ¬ (1024 : Int) < (pages : Int) := by omega
  have a3 : ¬ (frames : Int) < 4 := by omega
  have a4 : ¬ (256 : Int) < (frames : Int) := by omega
  have a5 : ¬ (base : Int) < 0 := by omega
  have a6 : ¬ (m : Int) - 4 * (pages : Int) < (base : Int) := by omega
  have b1 : decide ((pages : Int) < 1) = false := decide_eq_false a1
  have b2 : decide ((1024 : Int) < (pages : Int)) = false := decide_eq_false a2
  have b3 : decide ((frames : Int) < 4) = false := decide_eq_false a3
  have b4 : decide ((256 : Int) < (frames : Int)) = false := decide_eq_false a4
  have b5 : decide ((base : Int) < 0) = false := decide_eq_false a5
  have b6 : decide ((m : Int) - 4 * (pages : Int) < (base : Int)) = false := decide_eq_false a6
  have HB := Lib.hid hB
  have POK := Lib.hid (show Po.ok ⟨base, pages, frames, [], 0⟩ from { b0 := by show base ≤ 16384; omega, p1 := h1, p2 := h2, f1 := h3, f2 := h4, len := Nat.zero_le _, hand := .inl rfl, ids := fun s hs => absurd hs List.not_mem_nil, stb := fun s hs => absurd hs List.not_mem_nil, one := fun i j hi => absurd hi (Nat.not_lt_zero i) })
  obtain ⟨gI, d, dv, pv⟩ := I
  unfold Wd.ptr Ids.ptr at *
  dsimp only at *
  clear hW hm
  go_enter Tryz.func7, Tryz.ntmps7
  go_wp2_with fail
  refine CS.out.mono ?_
  rintro e w1 ⟨rfl, rfl⟩
  clear CS
  have K1 := Lib.hid (Bk.new w1 75 ((⟨w1.heap.size, .slice none 0 0, [], .pointer (some ⟨d.g, 0, none⟩), .pointer (some ⟨gI, 0, none⟩)⟩ : Pd).box ⟨base, pages, frames, [], 0⟩))
  go_wp2
  refine bodyPost_ret (v := .tuple #[.pointer (some ⟨w1.heap.size, 0, none⟩), .int .i64 0]) (by simp [results, Tryz.results7, go_sem]) rfl ?_
  refine ⟨w1.heap.size, rfl, ?_, (Below.refl _ _).alloc (Nat.le_refl _) _⟩
  exact { box := K1.out, bg := HB.out, row := World.ownsRow_nil _ _ _ _, bl := rfl, sl := fun j hb => absurd hb (Nat.not_lt_zero j), bb := fun b hb => absurd hb List.not_mem_nil, nd := List.nodup_nil, ok := POK.out }
set_option maxRecDepth 100000 in
set_option maxHeartbeats 4000000 in
theorem pnew_bad (dp lp : Nat) (base pages frames : Int) (w : World) (h : pages < 1 ∨ (1 ≤ pages ∧ pages ≤ 1024) ∧ (frames < 4 ∨ 4 ≤ frames ∧ 256 < frames)) :
    Calls Tryz.prog 7 #[.pointer (some ⟨dp, 0, none⟩), .pointer (some ⟨lp, 0, none⟩), .int .i64 base, .int .i64 pages, .int .i64 frames] w fun e w' => e = .returned (.tuple #[.pointer none, .int .i64 1]) ∧ w' = w := by
  rcases h with h | ⟨⟨h1, h2⟩, h | ⟨h3, h⟩⟩
  · have b1 : decide (pages < 1) = true := decide_eq_true h
    go_enter Tryz.func7, Tryz.ntmps7
    go_wp2
    exact bodyPost_ret (v := .tuple #[.pointer none, .int .i64 1]) (by simp [results, Tryz.results7, go_sem]) rfl ⟨rfl, rfl⟩
  · have a1 : ¬ pages < 1 := by omega
    have a2 : ¬ 1024 < pages := by omega
    have b1 : decide (pages < 1) = false := decide_eq_false a1
    have b2 : decide (1024 < pages) = false := decide_eq_false a2
    have b3 : decide (frames < 4) = true := decide_eq_true h
    go_enter Tryz.func7, Tryz.ntmps7
    go_wp2
    exact bodyPost_ret (v := .tuple #[.pointer none, .int .i64 1]) (by simp [results, Tryz.results7, go_sem]) rfl ⟨rfl, rfl⟩
  · have a1 : ¬ pages < 1 := by omega
    have a2 : ¬ 1024 < pages := by omega
    have a3 : ¬ frames < 4 := by omega
    have b1 : decide (pages < 1) = false := decide_eq_false a1
    have b2 : decide (1024 < pages) = false := decide_eq_false a2
    have b3 : decide (frames < 4) = false := decide_eq_false a3
    have b4 : decide (256 < frames) = true := decide_eq_true h
    go_enter Tryz.func7, Tryz.ntmps7
    go_wp2
    exact bodyPost_ret (v := .tuple #[.pointer none, .int .i64 1]) (by simp [results, Tryz.results7, go_sem]) rfl ⟨rfl, rfl⟩
end Go.Proofs.YtgafajbdmegfgaaGreat
namespace Go.Proofs.YtgafajbdmegfgaaGreat
open Go.RowKit

theorem below_grow1 {a b c : World} {r : Nat} (h : Below a.heap.size a b) (hg : b.grownBy c (some r)) (hr : a.heap.size ≤ r) : Below a.heap.size a c :=
  h.trans ((Out.of_grown hg (p := fun k => a.heap.size ≤ k) (fun k hk _ => by injection hk with hk; omega)).below h.size (fun k hk => hk))
set_option maxRecDepth 100000 in
set_option maxHeartbeats 4000000 in
theorem pget_bad {w : World} {B : Nat} {J : Pd} {P : Po} (hP : Pq w B J P) (id : Int) (hid : ¬ (0 ≤ id ∧ id < (P.pages : Int))) :
    Calls Tryz.prog 9 #[J.ptr, .int .i64 id] w fun e w' => e = .returned (.tuple #[.agg Pg.zero.cs, .int .i64 1]) ∧ Below w.heap.size w w' := by
  have hdec : (decide (0 ≤ id) && decide (id < (P.pages : Int))) = false := by
    rw [Bool.and_eq_false_iff, decide_eq_false_iff_not, decide_eq_false_iff_not]
    omega
  have CH := Lib.hid (phas_any (hP.alloc (.cells Pg.zero.cs 41)) id)
  rw [hdec] at CH
  have R1 := Lib.hid (Bk.new w 41 Pg.zero.cs)
  have B1 := Lib.hid ((Below.refl w.heap.size w).alloc (Nat.le_refl _) (.cells Pg.zero.cs 41))
  obtain ⟨R, hR⟩ : ∃ R, R = w.heap.size := ⟨_, rfl⟩
  rw [← hR] at R1
  have HR := Lib.hid hR.symm
  clear hP hid hdec hR
  unfold Pd.ptr at CH ⊢
  go_enter Tryz.func9, Tryz.ntmps9
  go_upto_region 1 with fail
  rw [HR.out]
  go_wp2_with fail
  refine CH.out.mono ?_
  rintro e w2 ⟨rfl, rfl⟩
  clear CH
  generalize w.alloc (.cells Pg.zero.cs 41) = w1 at *
  go_wp2_with (first | (refine pbuild0 rfl rfl ?_) | (refine store_page rfl _ _ rfl R Pg.zero Pg.zero rfl rfl R1.out ?_))
  refine bodyPost_ret (ppage_ct rfl _ _ R Pg.zero (setRow_heap _ _ _ _ _ _ R1.out) rfl) rfl ?_
  exact ⟨rfl, below_setRow B1.out (Nat.le_of_eq HR.out) _⟩
set_option maxRecDepth 100000 in
set_option maxHeartbeats 4000000 in
theorem pput_bad {w : World} {B : Nat} {J : Pd} {P : Po} (hP : Pq w B J P) (id : Int) (x : Pg) (st : Int) (hbad : ¬ (0 ≤ id ∧ id < (P.pages : Int)) ∨ st < 0 ∨ ¬ x.ok) :
    Calls Tryz.prog 12 #[J.ptr, .int .i64 id, .agg x.cs, .int .i64 st] w fun e w' => e = .returned (.int .i64 1) ∧ Below w.heap.size w w' := by
  have CH := Lib.hid (phas_any (hP.alloc (.cells x.cs 41)) id)
  have K1 := Lib.hid (Bk.new w 41 x.cs)
  have B1 := Lib.hid ((Below.refl w.heap.size w).alloc (Nat.le_refl _) (.cells x.cs 41))
  have CC := Lib.hid (fun w' => show Calls Tryz.prog 31 #[.agg x.cs] w' (fun e w'' => e = .returned (.int .i64 x.err) ∧ Below w'.heap.size w' w'') from check_any x w')
  obtain ⟨G6, hG6⟩ : ∃ G6, G6 = w.heap.size := ⟨_, rfl⟩
  rw [← hG6] at K1
  have HG6 := Lib.hid hG6.symm
  obtain ⟨hs, hhs⟩ : ∃ hs : Bool, hs = (decide (0 ≤ id) && decide (id < (P.pages : Int))) := ⟨_, rfl⟩
  rw [← hhs] at CH
  have HH := Lib.hid (show hs = false ∨ st < 0 ∨ ¬ x.ok from by
    rcases hbad with h | h
    · left
      rw [hhs, Bool.and_eq_false_iff, decide_eq_false_iff_not, decide_eq_false_iff_not]
      omega
    · exact .inr h)
  clear hP hbad hhs hG6
  unfold Pd.ptr at CH ⊢
  go_enter Tryz.func12, Tryz.ntmps12
  go_upto_region 1 with fail
  rw [HG6.out]
  go_wp2_with fail
  refine CH.out.mono ?_
  rintro e w2 ⟨rfl, rfl⟩
  clear CH
  generalize w.alloc (.cells x.cs 41) = w1 at *
  rcases hs with _ | _
  · clear HH CC
    go_wp2
    go_ret
    exact ⟨rfl, B1.out⟩
  · by_cases hst : st < 0
    · have hstd : decide (st < 0) = true := decide_eq_true hst
      clear HH CC
      go_wp2
      go_ret
      exact ⟨rfl, B1.out⟩
    · have hstd : decide (st < 0) = false := decide_eq_false hst
      have hxo : ¬ x.ok := by
        rcases HH.out with h | h | h
        · cases h
        · exact absurd h hst
        · exact h
      have XE := Lib.hid (Pg.err_no hxo)
      rw [XE.out] at CC
      clear HH hxo
      go_wp2_with (refine load_page_if _ rfl (by first | rfl | kernel_rfl) G6 x rfl K1.out ?_)
      refine (CC.out _).mono ?_
      rintro e w3 ⟨rfl, hb⟩
      have B3 := Lib.hid (below_then B1.out hb B1.out.size)
      clear hb CC
      go_wp2
      go_ret
      exact ⟨rfl, B3.out⟩
end Go.Proofs.YtgafajbdmegfgaaGreat
namespace Go.Proofs.YtgafajbdmegfgaaGreat
open Go.RowKit

def pgH1 : Pg := ⟨3, 0, 1, 0, fun _ => ⟨0, ⟨#[]⟩⟩⟩
theorem pgH1_ok : pgH1.ok := ⟨by unfold Pg.head pgH1; decide, fun i _ => .inl ⟨rfl, rfl⟩⟩
section
variable {ops : Array Oper} {rest : List Oper} {o : Oper} {a : Act} {w : World} {Q : Exit → Act → World → Prop}
theorem pbuildH1 (hg : o.guard = none) (ho : o.op = .build 41 #[(0, .const (.int .i64 3)), (2, .const (.int .i64 1))]) (h : wpList Tryz.prog ops Q rest (a.put o.dst (.agg pgH1.cs)) w) : wpList Tryz.prog ops Q (o :: rest) a w := by
  refine wpList_plain hg fun K' hK' => ?_
  have hb : (Instr.build 41 #[(0, .int .i64 3), (2, .int .i64 1)]).run Tryz.prog w = .ok (.agg pgH1.cs) w := by kernel_rfl
  unfold Oper.wp execOp
  simp only [ho, Sem.run_bind, Sem.run_pure, Result.andThen_ok, List.map_toArray, List.map_cons, List.map_nil, Act.eval, hb]
  exact hK' _ _ h
end
/-- A volume under way: device, log, pool; what its pages are. -/
structure Ps (w : World) (B : Nat) (I : Wd) (J : Pd) (P : Po) (L : Lg) (S : Dsk) (Now : Nat → Pg) (St : Nat → Nat) : Prop where
  wl : Wl w B I L S
  pq : Pq w B J P
  ed : J.dp = I.d.ptr
  el : J.lp = I.ptr
  pv : Pv P S Now St
  fb : L.first + L.n ≤ P.base
  hB : B ≤ w.heap.size
theorem Ps.kept {w w' : World} {B : Nat} {I : Wd} {J : Pd} {P : Po} {L : Lg} {S : Dsk} {Now : Nat → Pg} {St : Nat → Nat} (h : Ps w B I J P L S Now St) (hb : Below w.heap.size w w') : Ps w' B I J P L S Now St :=
  ⟨h.wl.kept hb, h.pq.kept hb, h.ed, h.el, h.pv, h.fb, Nat.le_trans h.hB hb.size⟩
/-- Get, of a volume under way. -/
theorem ps_get {w : World} {B : Nat} {I : Wd} {J : Pd} {P : Po} {L : Lg} {S : Dsk} {Now : Nat → Pg} {St : Nat → Nat} (h : Ps w B I J P L S Now St) (id : Nat) (hid : id < P.pages) :
    Calls Tryz.prog 9 #[J.ptr, .int .i64 (id : Int)] w fun e w' => ∃ (J' : Pd) (P' : Po) (x : Pg), e = .returned (.tuple #[.agg x.cs, .int .i64 0]) ∧ x.cs = (Now id).cs ∧ J'.g = J.g ∧ Ps w' B I J' P' L S Now St ∧ P'.base = P.base ∧ P'.pages = P.pages ∧ P'.frames = P.frames ∧ Out w w' (PF B w) := by
  refine (pget_any h.wl.dsk h.pq h.ed id hid h.pv.fit h.hB).mono ?_
  rintro e w' ⟨J', P', x, er, rfl, hq, eg, edp, elp, hr, ho⟩
  obtain ⟨rfl, hx, hv, e1, e2, e3⟩ := h.pv.get hid hr
  exact ⟨J', P', x, rfl, hx, eg, ⟨h.wl.sf ho, hq, edp.trans h.ed, elp.trans h.el, hv, by rw [e1]; exact h.fb, Nat.le_trans h.hB ho.size⟩, e1, e2, e3, sf_pf ho⟩
/-- Put, of a volume under way. -/
theorem ps_put {w : World} {B : Nat} {I : Wd} {J : Pd} {P : Po} {L : Lg} {S : Dsk} {Now : Nat → Pg} {St : Nat → Nat} (h : Ps w B I J P L S Now St) (id : Nat) (hid : id < P.pages) (x : Pg) (hx : x.ok) (st : Nat) (hst : st ≤ 9223372036854775807) (hp : S.pend.length ≤ 2199023255552) :
    Calls Tryz.prog 12 #[J.ptr, .int .i64 (id : Int), .agg x.cs, .int .i64 (st : Int)] w fun e w' => ∃ (p' : Value) (J' : Pd) (P' : Po) (L' : Lg) (S' : Dsk), e = .returned (.int .i64 0) ∧ J'.g = J.g ∧ PutRel P L S id x st P' L' S' 0 ∧
      Ps w' B ⟨I.g, I.d.with p', I.dv, I.pv⟩ J' P' L' S' (updN Now id x) (updN St id st) ∧ P'.base = P.base ∧ P'.pages = P.pages ∧ P'.frames = P.frames ∧ Out w w' (PF B w) := by
  refine (pput_any h.wl h.pq h.ed h.el id hid x hx st hst h.pv.good h.hB hp).mono ?_
  rintro e w' ⟨er, p', J', P', L', S', rfl, hw, hq, eg, edp, elp, hr, ho⟩
  obtain ⟨rfl, hv, e1, e2, e3⟩ := h.pv.put h.pq.ok h.wl.ok h.fb hid hx hr
  refine ⟨p', J', P', L', S', rfl, eg, hr, ⟨hw, hq, edp.trans h.ed, elp.trans h.el, hv, ?_, Nat.le_trans h.hB ho.size⟩, e1, e2, e3, ho⟩
  rw [e1]
  rcases hr with ⟨_, _, _, rfl, _⟩ | ⟨_, P1, i, hroom, _⟩
  · exact h.fb
  · rcases hroom with ⟨_, _, _, rfl, _⟩ | ⟨P2, k, hi2, _, _, hfl, _⟩
    · exact h.fb
    · have := sflush_ok h.wl.ok S (P2.ss[i]) P2.base
      rw [← hfl] at this
      dsimp only at this
      rw [this.2.1, this.2.2]
      exact h.fb
end Go.Proofs.YtgafajbdmegfgaaGreat
set_option maxRecDepth 100000
namespace Go.Proofs.YtgafajbdmegfgaaGreat
open Go.RowKit Go.ChangeShapes Go.WideShapes Go.ChangeAt Go.Deep

structure IsPage (v : Value) (p : Pg) : Prop where
  val : v = p.v
  bd : (-9223372036854775808 ≤ p.k ∧ p.k ≤ 9223372036854775807) ∧ (-9223372036854775808 ≤ p.l ∧ p.l ≤ 9223372036854775807) ∧ (-9223372036854775808 ≤ p.s ∧ p.s ≤ 9223372036854775807) ∧ (-9223372036854775808 ≤ p.n ∧ p.n ≤ 9223372036854775807)
  cells : ∀ i, i < 6 → (-9223372036854775808 ≤ (p.c i).st ∧ (p.c i).st ≤ 9223372036854775807) ∧ (p.c i).d.size ≤ maxLen
def in64 (x : Int) : Prop := -9223372036854775808 ≤ x ∧ x ≤ 9223372036854775807
/-- A call: its kind, the page's number, the page, the record. -/
structure Cp where
  k : Int
  id : Int
  p : Pg
  v : ByteArray
def Cp.cs (c : Cp) : Array Value := (.int .i64 c.k :: .int .i64 c.id :: (c.p.cs.toList ++ [.string c.v])).toArray
def Cp.zero : Cp := ⟨0, 0, Pg.zero, ⟨#[]⟩⟩
theorem cp_len (c : Cp) : c.cs.toList.length = 19 := rfl
structure CpOk (c : Cp) : Prop where
  id : in64 c.id
  k : in64 c.k
  len : c.v.size ≤ maxLen
  pg : IsPage c.p.v c.p
section
variable {ops : Array Oper} {rest : List Oper} {o : Oper} {a : Act} {w : World} {Q : Exit → Act → World → Prop}
theorem load_cp_off (hgd : o.guard = none) (x : Operand) (ho : o.op = .load 43 x) (g off : Nat) (i : Nat) (p : Cp) (hx : a.eval x = .pointer (some ⟨g, off + i * 19, none⟩)) (hr : w.rangeAt g (off + i * 19) p.cs.toList)
    (h : wpList Tryz.prog ops Q rest (a.put o.dst (.agg p.cs)) w) : wpList Tryz.prog ops Q (o :: rest) a w :=
  wpList_load_mid hgd 43 x ho g (off + i * 19) hx p.cs.toList _ hr Tryz.underlying43 rfl (by rw [cp_len]; kernel_rfl) (by simpa using h)
theorem store_cp_new (hgd : o.guard = none) (x y : Operand) (ho : o.op = .store 43 x y) (i : Cp)
    (hx : a.eval x = .pointer (some ⟨w.heap.size, 0, none⟩)) (hy : a.eval y = .agg i.cs) (h : wpList Tryz.prog ops Q rest (a.put o.dst undef) (w.alloc (.cells i.cs 43))) : wpList Tryz.prog ops Q (o :: rest) a (w.alloc (.cells Cp.zero.cs 43)) := by
  refine wpList_store_row hgd 43 x y ho w.heap.size i.cs hx hy 43 Cp.zero.cs (Bk.new _ _ _) (by rw [show i.cs.size = 19 from rfl]; kernel_rfl) rfl (by simp [Cp.cs, Pg.cs, Value.oneCell']) ?_
  rw [World.setRow_alloc_new]
  exact h
/-- The page of a call. -/
theorem load_cpp (hgd : o.guard = none) (x : Operand) (ho : o.op = .load 41 x) (b : Nat) (s : Cp) (hx : a.eval x = .pointer (some ⟨b, 2, none⟩)) (hb : Bk w b 43 s.cs)
    (h : wpList Tryz.prog ops Q rest (a.put o.dst (.agg s.p.cs)) w) : wpList Tryz.prog ops Q (o :: rest) a w :=
  wpList_load_mid hgd 41 x ho b 2 hx s.p.cs.toList _ (fun i v hv => by
    rw [hb.cell]
    have hi : i < 16 := (List.getElem?_eq_some_iff.1 hv).1
    have : s.cs[2 + i]? = s.p.cs.toList[i]? := by
      rw [← Array.getElem?_toList]
      show (Value.int .i64 s.k :: .int .i64 s.id :: (s.p.cs.toList ++ [.string s.v]))[2 + i]? = _
      rw [Nat.add_comm, List.getElem?_cons_succ, List.getElem?_cons_succ, List.getElem?_append_left (by show i < 16; exact hi)]
    rw [this]; exact hv) Tryz.underlying41 rfl (by rw [show s.p.cs.toList.length = 16 from rfl]; kernel_rfl) (by simpa using h)
end
theorem cp_cells {w : World} {b : Nat} {s : Cp} (h : Bk w b 43 s.cs) : w.cell? ⟨b, 0, none⟩ = some (.int .i64 s.k) ∧ w.cell? ⟨b, 1, none⟩ = some (.int .i64 s.id) ∧ w.cell? ⟨b, 18, none⟩ = some (.string s.v) :=
  ⟨h.cell 0, h.cell 1, h.cell 18⟩
/-- A slice of calls that lie below B. -/
def CpsAt (w : World) (B : Nat) (v : Value) (l : List Cp) : Prop :=
  ∃ a c, v = .slice a l.length c ∧ (0 < l.length → ∃ b off, a = some (⟨b, off, none⟩ : Addr) ∧ b < B ∧ ∀ i p, l[i]? = some p → w.rangeAt b (off + i * 19) p.cs.toList)
structure IsCps (w : World) (v : Value) (l : List Cp) : Prop where
  at_ : CpsAt w w.heap.size v l
  len : l.length ≤ maxLen
  bd : ∀ i ∈ l, CpOk i
theorem CpsAt.below {w w' : World} {B : Nat} {v : Value} {l : List Cp} (h : CpsAt w B v l) (hb : Below B w w') : CpsAt w' B v l := by
  obtain ⟨a, c, e, h⟩ := h
  refine ⟨a, c, e, fun hm => ?_⟩
  obtain ⟨b, off, e1, hlt, hc⟩ := h hm
  exact ⟨b, off, e1, hlt, fun i p hi j u hu => (hb.cell (p := ⟨b, off + i * 19 + j, none⟩) hlt).trans (hc i p hi j u hu)⟩
section
variable {H : Type} {enc : TypeId × Value → H} {w : World} {base : Nat} {held : Bool}
theorem cell_trod {n : Nat} {a b : Value} {x : DataW H × List MemPlace} (h : DataW.trod enc Tryz.prog w base (fun _ => true) held n 38 [a, b] = some x) :
    ∃ c : Ce, a = .int .i64 c.st ∧ b = .string c.d ∧ (-9223372036854775808 ≤ c.st ∧ c.st ≤ 9223372036854775807) ∧ c.d.size ≤ maxLen := by
  obtain ⟨xs, m, _, _, _, hlen, hg⟩ := DataW.trod_struct Tryz.underlying38 h
  have cI : Tryz.prog.cellsOf 3 = 1 := by kernel_rfl
  have cS : Tryz.prog.cellsOf 9 = 1 := by kernel_rfl
  have hl2 : xs.length = 2 := hlen
  have hx : ∀ i, i < xs.length → ∃ y, xs[i]? = some y := fun i hi => ⟨_, List.getElem?_eq_getElem hi⟩
  have g0 : DataW.trod enc Tryz.prog w base (fun _ => true) held m 3 ([a, b].drop 0 |>.take (Tryz.prog.cellsOf 3)) = xs[0]? := hg 0 _ rfl
  have g1 : DataW.trod enc Tryz.prog w base (fun _ => true) held m 9 ([a, b].drop 1 |>.take (Tryz.prog.cellsOf 9)) = xs[1]? := hg 1 _ rfl
  rw [cI] at g0
  rw [cS] at g1
  obtain ⟨y0, e0⟩ := hx 0 (by omega)
  obtain ⟨y1, e1⟩ := hx 1 (by omega)
  obtain ⟨n1, hn1, _, z1⟩ := DataW.trod_int Tryz.underlying3 (g0.trans e0)
  obtain ⟨s2, hs2, _, z2⟩ := DataW.trod_string Tryz.underlying9 (g1.trans e1)
  have b1 : -9223372036854775808 ≤ n1 ∧ n1 ≤ 9223372036854775807 := by simpa [Lit.wf, IntKind.min, IntKind.max, IntKind.signed, IntKind.bits] using z1
  exact ⟨⟨n1, s2⟩, by simpa using hn1, by simpa using hs2, b1, z2⟩
theorem page_trod {fuel : Nat} {c0 c1 c2 c3 c4 c5 c6 c7 c8 c9 c10 c11 c12 c13 c14 c15 : Value} {x : DataW H × List MemPlace} (hf : DataW.trod enc Tryz.prog w base (fun _ => true) held fuel 41 [c0, c1, c2, c3, c4, c5, c6, c7, c8, c9, c10, c11, c12, c13, c14, c15] = some x) : ∃ q : Pg, IsPage (.agg #[c0, c1, c2, c3, c4, c5, c6, c7, c8, c9, c10, c11, c12, c13, c14, c15]) q := by
  have cI : Tryz.prog.cellsOf 3 = 1 := by kernel_rfl
  have cC : Tryz.prog.cellsOf 38 = 2 := by kernel_rfl
  have cA : Tryz.prog.cellsOf 39 = 12 := by kernel_rfl
  obtain ⟨xs, n, _, hxd, hpl, hlen, hg⟩ := DataW.trod_struct Tryz.underlying41 hf
  have hx : ∀ i, i < xs.length → ∃ y, xs[i]? = some y := fun i hi => ⟨_, List.getElem?_eq_getElem hi⟩
  have hl5 : xs.length = 5 := hlen
  generalize hL : [c0, c1, c2, c3, c4, c5, c6, c7, c8, c9, c10, c11, c12, c13, c14, c15] = L at hg
  have g0 : DataW.trod enc Tryz.prog w base (fun _ => true) held n 3 (L.drop 0 |>.take (Tryz.prog.cellsOf 3)) = xs[0]? := hg 0 _ rfl
  have g1 : DataW.trod enc Tryz.prog w base (fun _ => true) held n 3 (L.drop 1 |>.take (Tryz.prog.cellsOf 3)) = xs[1]? := hg 1 _ rfl
  have g2 : DataW.trod enc Tryz.prog w base (fun _ => true) held n 3 (L.drop 2 |>.take (Tryz.prog.cellsOf 3)) = xs[2]? := hg 2 _ rfl
  have g3 : DataW.trod enc Tryz.prog w base (fun _ => true) held n 3 (L.drop 3 |>.take (Tryz.prog.cellsOf 3)) = xs[3]? := hg 3 _ rfl
  have g4 : DataW.trod enc Tryz.prog w base (fun _ => true) held n 39 (L.drop 4 |>.take (Tryz.prog.cellsOf 39)) = xs[4]? := hg 4 _ rfl
  subst hL
  rw [cI] at g0 g1 g2 g3
  rw [cA] at g4
  obtain ⟨y0, e0⟩ := hx 0 (by omega)
  obtain ⟨y1, e1⟩ := hx 1 (by omega)
  obtain ⟨y2, e2⟩ := hx 2 (by omega)
  obtain ⟨y3, e3⟩ := hx 3 (by omega)
  obtain ⟨y4, e4⟩ := hx 4 (by omega)
  obtain ⟨n0, hn0, _, z0⟩ := DataW.trod_int Tryz.underlying3 (g0.trans e0)
  obtain ⟨n1, hn1, _, z1⟩ := DataW.trod_int Tryz.underlying3 (g1.trans e1)
  obtain ⟨n2, hn2, _, z2⟩ := DataW.trod_int Tryz.underlying3 (g2.trans e2)
  obtain ⟨n3, hn3, _, z3⟩ := DataW.trod_int Tryz.underlying3 (g3.trans e3)
  obtain ⟨ys, m, _, _, _, hyl, hy⟩ := DataW.trod_array Tryz.underlying39 (g4.trans e4)
  rw [cC] at hy
  have hyx : ∀ i, i < 6 → ∃ y, ys[i]? = some y := fun i hi => ⟨_, List.getElem?_eq_getElem (by omega)⟩
  obtain ⟨u0, f0⟩ := hyx 0 (by omega)
  obtain ⟨u1, f1⟩ := hyx 1 (by omega)
  obtain ⟨u2, f2⟩ := hyx 2 (by omega)
  obtain ⟨u3, f3⟩ := hyx 3 (by omega)
  obtain ⟨u4, f4⟩ := hyx 4 (by omega)
  obtain ⟨u5, f5⟩ := hyx 5 (by omega)
  obtain ⟨k0, a0, b0, m0, s0⟩ := cell_trod (a := c4) (b := c5) ((hy 0 (by omega)).trans f0)
  obtain ⟨k1, a1, b1, m1, s1⟩ := cell_trod (a := c6) (b := c7) ((hy 1 (by omega)).trans f1)
  obtain ⟨k2, a2, b2, m2, s2⟩ := cell_trod (a := c8) (b := c9) ((hy 2 (by omega)).trans f2)
  obtain ⟨k3, a3, b3, m3, s3⟩ := cell_trod (a := c10) (b := c11) ((hy 3 (by omega)).trans f3)
  obtain ⟨k4, a4, b4, m4, s4⟩ := cell_trod (a := c12) (b := c13) ((hy 4 (by omega)).trans f4)
  obtain ⟨k5, a5, b5, m5, s5⟩ := cell_trod (a := c14) (b := c15) ((hy 5 (by omega)).trans f5)
  have hi : ∀ {x : Int}, (Lit.int .i64 x).wf = true → -9223372036854775808 ≤ x ∧ x ≤ 9223372036854775807 := fun h => by simpa [Lit.wf, IntKind.min, IntKind.max, IntKind.signed, IntKind.bits] using h
  simp at hn0 hn1 hn2 hn3
  subst hn0 hn1 hn2 hn3 a0 b0 a1 b1 a2 b2 a3 b3 a4 b4 a5 b5
  refine ⟨⟨n0, n1, n2, n3, fun i => if i = 0 then k0 else if i = 1 then k1 else if i = 2 then k2 else if i = 3 then k3 else if i = 4 then k4 else k5⟩, rfl, ⟨hi z0, hi z1, hi z2, hi z3⟩, fun i hi6 => ?_⟩
  rcases six hi6 with rfl | rfl | rfl | rfl | rfl | rfl
  · exact ⟨m0, s0⟩
  · exact ⟨m1, s1⟩
  · exact ⟨m2, s2⟩
  · exact ⟨m3, s3⟩
  · exact ⟨m4, s4⟩
  · exact ⟨m5, s5⟩

/-- A slice whose elements have C cells each. -/
theorem rows_trod {P : Program} {t e : TypeId} {C : Nat} {fuel : Nat} {v : Value} {x : DataW H × List MemPlace} (ht : P.underlying t = some (.slice e)) (hC : P.cellsOf e = C) (h0 : 0 < C)
    (h : DataW.trod enc P w base (fun _ => true) held fuel t [v] = some x) :
    ∃ a len cap, v = .slice a len cap ∧ len ≤ cap ∧ cap ≤ maxLen ∧ SzOf x.1 cap ∧ (a = none → len = 0 ∧ cap = 0) ∧ ∃ L : Nat → List Value, (∀ i, i < len → (L i).length = C ∧ ∃ n y, DataW.trod enc P w base (fun _ => true) held n e (L i) = some y) ∧
      (0 < len → ∃ b off, a = some (⟨b, off, none⟩ : Addr) ∧ b < w.heap.size ∧ ∀ i j u, i < len → (L i)[j]? = some u → w.cell? ⟨b, off + i * C + j, none⟩ = some u) := by
  rcases open_slice ht h with ⟨hcs, rfl⟩ | ⟨y, len, cap, m, n, D, Pl, hcs, hb, hl, hm, hmm, hx, hi⟩
  · simp at hcs
    exact ⟨none, 0, 0, hcs, Nat.le_refl _, Nat.zero_le _, .inl rfl, (fun _ => ⟨rfl, rfl⟩), fun _ => [], fun i hi => absurd hi (Nat.not_lt_zero i), fun h => absurd h (Nat.lt_irrefl 0)⟩
  · simp at hcs
    simp only [if_true] at hmm
    obtain rfl : cap = m := by omega
    have hall : ∀ i, ∃ l : List Value, i < len → l.length = C ∧ (∃ n y, DataW.trod enc P w base (fun _ => true) held n e l = some y) ∧ ∀ j, j < C → w.cell? (y.add (i * C + j)) = l[j]? := by
      intro i
      by_cases hil : i < len
      · have hh := hi i (by omega)
        rw [hC] at hh
        obtain ⟨cs', hc, ht'⟩ := hh
        obtain ⟨_, hcl, hat⟩ := World.cells?_some hc
        exact ⟨cs', fun _ => ⟨hcl, ⟨_, _, ht'⟩, fun j hj => by rw [← add_add]; exact hat j hj⟩⟩
      · exact ⟨[], fun h => absurd h hil⟩
    refine ⟨some y, len, cap, hcs, hl, hm, (.inr ⟨_, _, by rw [hx], by simp; omega⟩), (fun h => by cases h), fun i => (hall i).choose, fun i hil => ⟨((hall i).choose_spec hil).1, ((hall i).choose_spec hil).2.1⟩, fun hlen => ?_⟩
    obtain ⟨b, off, e1, hlt, hc⟩ := mk_at (size := C) (len := len) (f := fun i j => ((hall i).choose)[j]?.getD .nilIface) hlen h0 (fun i j hi' hj => by
      obtain ⟨g1, _, g3⟩ := (hall i).choose_spec hi'
      rw [g3 j hj]
      have : j < (hall i).choose.length := by omega
      rw [List.getElem?_eq_getElem this]
      rfl)
    refine ⟨b, off, e1, hlt, fun i j u hi' hu => ?_⟩
    have hjl := (List.getElem?_eq_some_iff.1 hu).1
    have := hc i j hi' (by rw [((hall i).choose_spec hi').1] at hjl; exact hjl)
    rw [Nat.add_assoc, this, hu]
    rfl
theorem int_in {x : Int} (h : (Lit.int .i64 x).wf = true) : in64 x := by
  have : -9223372036854775808 ≤ x ∧ x ≤ 9223372036854775807 := by simpa [Lit.wf, IntKind.min, IntKind.max, IntKind.signed, IntKind.bits] using h
  exact this
theorem len_ex {α : Type} {l : List α} {n : Nat} (h : l.length = n) : ∀ i, i < n → ∃ y, l[i]? = some y := fun i hi => ⟨_, List.getElem?_eq_getElem (by omega)⟩
set_option maxRecDepth 100000 in
theorem callp_trod {n : Nat} {l : List Value} {x : DataW H × List MemPlace} (hlen : l.length = 19) (h : DataW.trod enc Tryz.prog w base (fun _ => true) held n 43 l = some x) :
    ∃ m : Cp, l = m.cs.toList ∧ CpOk m := by
  have cI : Tryz.prog.cellsOf 3 = 1 := by kernel_rfl
  have cS : Tryz.prog.cellsOf 9 = 1 := by kernel_rfl
  have cP : Tryz.prog.cellsOf 41 = 16 := by kernel_rfl
  obtain ⟨xs, m, _, _, _, hl, hg⟩ := DataW.trod_struct Tryz.underlying43 h
  match l, hlen with
  | [d0, d1, c0, c1, c2, c3, c4, c5, c6, c7, c8, c9, c10, c11, c12, c13, c14, c15, d2], _ =>
    have hl2 : xs.length = 4 := hl
    generalize hL : [d0, d1, c0, c1, c2, c3, c4, c5, c6, c7, c8, c9, c10, c11, c12, c13, c14, c15, d2] = L at hg
    have g0 : DataW.trod enc Tryz.prog w base (fun _ => true) held m 3 (L.drop 0 |>.take (Tryz.prog.cellsOf 3)) = xs[0]? := hg 0 _ rfl
    have g1 : DataW.trod enc Tryz.prog w base (fun _ => true) held m 3 (L.drop 1 |>.take (Tryz.prog.cellsOf 3)) = xs[1]? := hg 1 _ rfl
    have g2 : DataW.trod enc Tryz.prog w base (fun _ => true) held m 41 (L.drop 2 |>.take (Tryz.prog.cellsOf 41)) = xs[2]? := hg 2 _ rfl
    have g3 : DataW.trod enc Tryz.prog w base (fun _ => true) held m 9 (L.drop 18 |>.take (Tryz.prog.cellsOf 9)) = xs[3]? := hg 3 _ rfl
    subst hL
    rw [cI] at g0 g1
    rw [cS] at g3
    rw [cP] at g2
    obtain ⟨y0, e0⟩ := len_ex hl2 0 (by omega)
    obtain ⟨y1, e1⟩ := len_ex hl2 1 (by omega)
    obtain ⟨y2, e2⟩ := len_ex hl2 2 (by omega)
    obtain ⟨y3, e3⟩ := len_ex hl2 3 (by omega)
    obtain ⟨n0, hn0, _, z0⟩ := DataW.trod_int Tryz.underlying3 (g0.trans e0)
    obtain ⟨n1, hn1, _, z1⟩ := DataW.trod_int Tryz.underlying3 (g1.trans e1)
    obtain ⟨q, hq⟩ := page_trod (g2.trans e2)
    obtain ⟨s3, hs3, _, z3⟩ := DataW.trod_string Tryz.underlying9 (g3.trans e3)
    have hval := hq.val
    have hq2 : IsPage q.v q := by rw [hval] at hq; exact hq
    unfold Pg.v Pg.cs at hval
    simp only [Value.agg.injEq, Array.mk.injEq, List.cons.injEq] at hval
    obtain ⟨r0, r1, r2, r3, r4, r5, r6, r7, r8, r9, r10, r11, r12, r13, r14, r15, _⟩ := hval
    simp at hn0 hn1 hs3
    subst hn0 hn1 hs3 r0 r1 r2 r3 r4 r5 r6 r7 r8 r9 r10 r11 r12 r13 r14 r15
    exact ⟨⟨n0, n1, q, s3⟩, rfl, int_in z1, int_in z0, z3, hq2⟩
theorem read_cps {r : Reach} {b0 : Nat} {d : DataW H} {p : List MemPlace} {v : Value}
    (hv : Value.okWide Tryz.prog w r b0 22 v) (h : DataW.Trod enc Tryz.prog w base (fun _ => true) held 22 v d p) : ∃ l : List Cp, IsCps w v l := by
  obtain ⟨fuel, hf⟩ := h
  obtain ⟨a0, len0, cap0, rfl⟩ := okWide_slice Tryz.underlying22 hv
  have hf' : DataW.trod enc Tryz.prog w base (fun _ => true) held fuel 22 [.slice a0 len0 cap0] = some (d, p) := hf
  obtain ⟨a, len, cap, hve, h1, h2, _, _, L, hL, hat⟩ := rows_trod (C := 19) Tryz.underlying22 (by kernel_rfl) (by omega) hf'
  rw [hve]
  have him : ∀ i, ∃ mm : Cp, i < len → L i = mm.cs.toList ∧ CpOk mm := by
    intro i
    by_cases hi : i < len
    · obtain ⟨hlen, n, y, ht⟩ := hL i hi
      obtain ⟨mm, h1⟩ := callp_trod hlen ht
      exact ⟨mm, fun _ => h1⟩
    · exact ⟨Cp.zero, fun h => absurd h hi⟩
  have hll : ((List.range len).map fun i => (him i).choose).length = len := by simp
  refine ⟨(List.range len).map fun i => (him i).choose, ⟨a, cap, by rw [hll], fun h0 => ?_⟩, by rw [hll]; omega, fun i hi => ?_⟩
  · rw [hll] at h0
    obtain ⟨b, off, e1, hlt, hc⟩ := hat h0
    refine ⟨b, off, e1, hlt, fun i p hi j u hu => ?_⟩
    have hil : i < len := by have := (List.getElem?_eq_some_iff.1 hi).1; rwa [hll] at this
    rw [List.getElem?_map, List.getElem?_range hil] at hi
    simp at hi
    subst hi
    exact hc i j u hil (by rw [((him i).choose_spec hil).1]; exact hu)
  · obtain ⟨k, hk, rfl⟩ := List.mem_map.1 hi
    exact ((him k).choose_spec (List.mem_range.1 hk)).2
end
end Go.Proofs.YtgafajbdmegfgaaGreat
namespace Go.Proofs.YtgafajbdmegfgaaGreat
open Go.RowKit

theorem likeS_dirty : ∀ {l m : List Sl}, l.length = m.length → (∀ (j : Nat) (h : j < l.length) (h' : j < m.length), (m[j]).id = (l[j]).id ∧ (m[j]).di = (l[j]).di) → dirtyL m = dirtyL l
  | [], [], _, _ => rfl
  | [], _ :: _, h, _ => by simp at h
  | _ :: _, [], h, _ => by simp at h
  | a :: l, b :: m, h, hh => by
    have h0 := hh 0 (by simp) (by simp)
    have ih := likeS_dirty (l := l) (m := m) (by simpa using h) (fun j h1 h2 => hh (j + 1) (by simpa using h1) (by simpa using h2))
    rw [dirtyL_cons, dirtyL_cons, ih]
    have e1 : b.id = a.id := h0.1
    have e2 : b.di = a.di := h0.2
    rw [e1, e2]
/-- What is dirty behind spare is what was. -/
theorem Sp.dirty {P P' : Po} {i : Nat} {ok : Bool} (h : Sp P P' i ok) {x : Int} (hx : x ∈ dirtyL P'.ss) : x ∈ dirtyL P.ss := by
  obtain ⟨s, hs, hd, rfl⟩ := dirtyL_mem.1 hx
  obtain ⟨j, hj, rfl⟩ := List.mem_iff_getElem.1 hs
  by_cases hlt : j < P.ss.length
  · obtain ⟨hj', hl⟩ := h.same j hlt
    exact dirtyL_mem.2 ⟨P.ss[j], List.getElem_mem hlt, by rw [← hl.2.2.2]; exact hd, hl.1.symm⟩
  · rcases h.new with e1 | ⟨e1, -, -, e4⟩
    · omega
    · obtain rfl : j = P.ss.length := by omega
      rw [List.getElem?_eq_getElem hj] at e4
      injection e4 with e4
      rw [e4] at hd
      cases hd
theorem dirty_set {l : List Sl} {j : Nat} {s : Sl} {x : Int} (hx : x ∈ dirtyL (l.set j s)) : (s.di = true ∧ s.id = x) ∨ x ∈ dirtyL l := by
  obtain ⟨t, ht, hd, rfl⟩ := dirtyL_mem.1 hx
  rcases List.mem_or_eq_of_mem_set ht with h | rfl
  · exact .inr (dirtyL_mem.2 ⟨t, h, hd, rfl⟩)
  · exact .inl ⟨hd, rfl⟩
theorem GetRel.dirty {P P' : Po} {S : Dsk} {id : Nat} {x : Pg} {er : Int} (h : GetRel P S id P' x er) {y : Int} (hy : y ∈ dirtyL P'.ss) : y ∈ dirtyL P.ss := by
  rcases h with ⟨j, hj, -, rfl, -, -⟩ | ⟨-, -, rfl, -, -⟩ | ⟨-, -, -, P1, i, ok, hsp, ⟨-, rfl⟩ | ⟨-, hi, rfl⟩⟩
  · rcases dirty_set hy with ⟨h1, h2⟩ | h
    · exact dirtyL_mem.2 ⟨P.ss[j], List.getElem_mem hj, h1, h2⟩
    · exact h
  · exact hy
  · exact hsp.dirty hy
  · rcases dirty_set hy with ⟨h1, -⟩ | h
    · cases h1
    · exact hsp.dirty h
theorem PutRel.dirty {P P' : Po} {L L' : Lg} {S S' : Dsk} {id : Nat} {x : Pg} {st : Nat} (h : PutRel P L S id x st P' L' S' 0) {y : Int} (hy : y ∈ dirtyL P'.ss) : y = (id : Int) ∨ y ∈ dirtyL P.ss := by
  rcases h with ⟨j, hj, -, -, -, -, rfl⟩ | ⟨-, P1, i, hroom, hi, rfl⟩
  · rcases dirty_set hy with ⟨-, h2⟩ | h
    · exact .inl h2.symm
    · exact .inr h
  · rw [if_pos rfl] at hy
    rcases dirty_set hy with ⟨-, h2⟩ | h
    · exact .inl h2.symm
    · right
      rcases hroom with ⟨ok, hsp, -, -, -, -⟩ | ⟨P2, k, hi2, hsp, -, -, rfl⟩
      · exact hsp.dirty h
      · rw [if_pos rfl] at h
        rcases dirty_set h with ⟨h1, -⟩ | h
        · cases h1
        · exact hsp.dirty h
theorem PutRel.lg {P P' : Po} {L L' : Lg} {S S' : Dsk} {id : Nat} {x : Pg} {st : Nat} {er : Int} (hL : L.ok) (h : PutRel P L S id x st P' L' S' er) : L'.fin = L.fin ∧ L'.start = L.start ∧ L'.n = L.n ∧ L'.first = L.first ∧ S'.pend.length ≤ S.pend.length + 4102 := by
  have hlf : ∀ at_ : Int, (L.flush S at_).1.fin = L.fin ∧ (L.flush S at_).1.start = L.start ∧ (L.flush S at_).1.n = L.n ∧ (L.flush S at_).1.first = L.first := fun at_ => by
    unfold Lg.flush
    split
    · exact ⟨rfl, rfl, rfl, rfl⟩
    split
    · exact ⟨rfl, rfl, rfl, rfl⟩
    split
    · exact ⟨rfl, rfl, rfl, rfl⟩
    · exact ⟨rfl, rfl, rfl, rfl⟩
  rcases h with ⟨j, hj, -, rfl, rfl, -, -⟩ | ⟨-, P1, i, hroom, hi, -⟩
  · exact ⟨rfl, rfl, rfl, rfl, by omega⟩
  · rcases hroom with ⟨ok, -, -, rfl, rfl, -⟩ | ⟨P2, k, hi2, -, -, hfl, -⟩
    · exact ⟨rfl, rfl, rfl, rfl, by omega⟩
    · have h1 := sl_flush_pend hL (P2.ss[i]) P2.base S
      have h2 := hlf ((P2.ss[i]).st : Int)
      have e : ((P2.ss[i]).flush P2.base L S).1 = (L.flush S ((P2.ss[i]).st : Int)).1 := by
        unfold Sl.flush
        split <;> rfl
      rw [← hfl] at h1 e
      dsimp only at h1 e
      rw [e]
      exact ⟨h2.1, h2.2.1, h2.2.2.1, h2.2.2.2, h1⟩
theorem flushL_lg : ∀ (l : List Int) (P : Po) (L : Lg) (S : Dsk), (flushL l P L S).2.1.fin = L.fin ∧ (flushL l P L S).2.1.start = L.start ∧ (flushL l P L S).2.1.n = L.n ∧ (flushL l P L S).2.1.first = L.first
  | [], P, L, S => ⟨rfl, rfl, rfl, rfl⟩
  | x :: l, P, L, S => by
    have hlf : ∀ s : Sl, (s.flush P.base L S).1.fin = L.fin ∧ (s.flush P.base L S).1.start = L.start ∧ (s.flush P.base L S).1.n = L.n ∧ (s.flush P.base L S).1.first = L.first := fun s => by
      have e : (s.flush P.base L S).1 = (L.flush S (s.st : Int)).1 := by
        unfold Sl.flush
        split <;> rfl
      rw [e]
      unfold Lg.flush
      split
      · exact ⟨rfl, rfl, rfl, rfl⟩
      split
      · exact ⟨rfl, rfl, rfl, rfl⟩
      split
      · exact ⟨rfl, rfl, rfl, rfl⟩
      · exact ⟨rfl, rfl, rfl, rfl⟩
    have h := hlf (P.ss.getD (findL x P.ss).toNat Sl.fresh)
    rw [flushL]
    split
    · have ih := flushL_lg l { P with ss := P.ss.set (findL x P.ss).toNat { (P.ss.getD (findL x P.ss).toNat Sl.fresh) with di := false } } ((P.ss.getD (findL x P.ss).toNat Sl.fresh).flush P.base L S).1 ((P.ss.getD (findL x P.ss).toNat Sl.fresh).flush P.base L S).2.1
      exact ⟨ih.1.trans h.1, ih.2.1.trans h.2.1, ih.2.2.1.trans h.2.2.1, ih.2.2.2.trans h.2.2.2⟩
    · exact h
theorem flushAll_lg (P : Po) (L : Lg) (S : Dsk) : (flushAll P L S).2.1.fin = L.fin ∧ (flushAll P L S).2.1.start = L.start ∧ (flushAll P L S).2.1.n = L.n ∧ (flushAll P L S).2.1.first = L.first := by
  have h := flushL_lg (sortedD P) P L S
  unfold flushAll
  split
  · exact h
  · exact h
theorem flushL_lok : ∀ (l : List Int) (P : Po) (L : Lg) (S : Dsk), L.ok → (flushL l P L S).2.1.ok
  | [], P, L, S, h => h
  | x :: l, P, L, S, h => by
    have h1 := sflush_ok h S (P.ss.getD (findL x P.ss).toNat Sl.fresh) P.base
    rw [flushL]
    split
    · exact flushL_lok l _ _ _ h1.1
    · exact h1.1

/-- Where Append would put a record: the new end, the place, the error. -/
def apF (F : Nat) (z : Nat) : Nat × Nat × Int :=
  if z = 0 then (F, 0, 1) else if 65535 < z then (F, 0, 2) else if 6912 - (F - 54) < z + 2 then (F, 0, 70) else (F + (2 + z), F, 0)
/-- A volume under way: the device's block, the log's, the pool's; pages, frames; the log's end; the writes that are pending; what the pages are and their records' places; what may be dirty. -/
def Vw (w : World) (B gd gl gp pages frames F q : Nat) (Now : Nat → Pg) (St : Nat → Nat) (D : Int → Prop) : Prop :=
  ∃ (I : Wd) (J : Pd) (P : Po) (L : Lg) (S : Dsk), Ps w B I J P L S Now St ∧ I.g = gl ∧ I.d.g = gd ∧ J.g = gp ∧ P.base = 128 ∧ P.pages = pages ∧ P.frames = frames ∧ L.fin = F ∧ L.start = 54 ∧ L.n = 128 ∧ L.first = 0 ∧ S.pend.length ≤ q ∧ ∀ x ∈ dirtyL P.ss, D x
section
variable {w w' : World} {B gd gl gp pages frames F Fn q : Nat} {Now : Nat → Pg} {St : Nat → Nat} {D : Int → Prop}
theorem Vw.kept (h : Vw w B gd gl gp pages frames F q Now St D) (hb : Below w.heap.size w w') : Vw w' B gd gl gp pages frames F q Now St D := by
  obtain ⟨I, J, P, L, S, hp, h⟩ := h
  exact ⟨I, J, P, L, S, hp.kept hb, h⟩
theorem Vw.hB (h : Vw w B gd gl gp pages frames F q Now St D) : B ≤ w.heap.size := by
  obtain ⟨I, J, P, L, S, hp, h⟩ := h
  exact hp.hB
theorem Vw.alloc (h : Vw w B gd gl gp pages frames F q Now St D) (o : Obj) : Vw (w.alloc o) B gd gl gp pages frames F q Now St D := h.kept ((Below.refl w.heap.size w).alloc (Nat.le_refl _) o)
theorem Vw.weak (h : Vw w B gd gl gp pages frames F q Now St D) {q' : Nat} (hq : q ≤ q') {D' : Int → Prop} (hD : ∀ x, D x → D' x) : Vw w B gd gl gp pages frames F q' Now St D' := by
  obtain ⟨I, J, P, L, S, hp, h1, h2, h3, h4, h5, h6, h7, h8, h9, h10, h11, h12⟩ := h
  exact ⟨I, J, P, L, S, hp, h1, h2, h3, h4, h5, h6, h7, h8, h9, h10, Nat.le_trans h11 hq, fun x hx => hD x (h12 x hx)⟩
theorem Vw.fin_le (h : Vw w B gd gl gp pages frames F q Now St D) : 54 ≤ F ∧ F ≤ 6966 := by
  obtain ⟨I, J, P, L, S, hp, h1, h2, h3, h4, h5, h6, h7, h8, h9, h10, -⟩ := h
  have a := hp.wl.ok.rm
  have b := hp.wl.ok.sf
  have c := hp.wl.ok.fe
  rw [h7, h8, h9] at a
  rw [h8] at b
  rw [h7] at c
  unfold flr at a
  omega
/-- What the log's own work may touch beside the pool's: numbers. -/
def plI (t : TypeId) : Prop := plT t ∨ t = 3
def PI (B : Nat) (w : World) (k : Nat) : Prop := B ≤ k ∧ ∃ t cs, Bk w k t cs ∧ plI t
theorem pf_pi {a b : World} (h : Out a b (PF B a)) : Out a b (PI B a) := h.mono fun i _ ⟨h1, t, cs, hc, ht⟩ => ⟨h1, t, cs, hc, .inl ht⟩
theorem bk_pi {k : Nat} {t : TypeId} {cs : Array Value} (h : Out w w' (PI B w)) (hk : Bk w k t cs) (ht : ¬ plI t) : Bk w' k t cs :=
  h.bk hk fun ⟨_, t', cs', hc, ht'⟩ => by
    have e : t = t' := Classical.byContradiction fun hne => Bk.ne_ hk hc hne rfl
    subst e
    exact ht ht'
theorem own_pi {base : Nat} {e : TypeId} {size : Nat} {v : Value} {n : Nat} {xs : List Value} (h : w.ownsRow base e size v n xs) (ho : Out w w' (PI B w)) (ht : ¬ plI e) : w'.ownsRow base e size v n xs :=
  owns_of_block h fun k hk => by
    obtain ⟨h1, h2, c, hc⟩ := owns_block h hk
    exact (bk_pi ho hc ht).trans hc.symm
theorem pi_below (h : Out w w' (PI B w)) (hB : B ≤ w.heap.size) : Below B w w' := h.below hB fun k hk => hk.1
theorem vw_get (h : Vw w B gd gl gp pages frames F q Now St D) (id : Int) :
    Calls Tryz.prog 9 #[.pointer (some ⟨gp, 0, none⟩), .int .i64 id] w fun e w' =>
      (0 ≤ id ∧ id < (pages : Int) ∧ e = .returned (.tuple #[.agg (Now id.toNat).cs, .int .i64 0]) ∨ ¬ (0 ≤ id ∧ id < (pages : Int)) ∧ e = .returned (.tuple #[.agg Pg.zero.cs, .int .i64 1])) ∧
      Vw w' B gd gl gp pages frames F q Now St D ∧ Out w w' (PI B w) := by
  obtain ⟨I, J, P, L, S, hp, h1, h2, rfl, h4, rfl, h6, h7, h8, h9, h10, h11, h12⟩ := h
  by_cases hid : 0 ≤ id ∧ id < (P.pages : Int)
  · obtain ⟨k, rfl⟩ : ∃ k : Nat, id = (k : Int) := ⟨id.toNat, by omega⟩
    refine (pget_any hp.wl.dsk hp.pq hp.ed k (by omega) hp.pv.fit hp.hB).mono ?_
    rintro e w' ⟨J', P', x, er, rfl, hq, eg, edp, elp, hr, ho⟩
    obtain ⟨rfl, hx, hv, e1, e2, e3⟩ := hp.pv.get (by omega) hr
    refine ⟨.inl ⟨hid.1, hid.2, by rw [Int.toNat_natCast, hx]⟩, ⟨I, J', P', L, S, ⟨hp.wl.sf ho, hq, edp.trans hp.ed, elp.trans hp.el, hv, by rw [e1]; exact hp.fb, Nat.le_trans hp.hB ho.size⟩, h1, h2, eg, e1.trans h4, e2, e3.trans h6, h7, h8, h9, h10, h11, fun y hy => h12 y (hr.dirty hy)⟩, pf_pi (sf_pf ho)⟩
  · refine (pget_bad hp.pq id hid).mono ?_
    rintro e w' ⟨rfl, hb⟩
    exact ⟨.inr ⟨hid, rfl⟩, ⟨I, J, P, L, S, hp.kept hb, h1, h2, rfl, h4, rfl, h6, h7, h8, h9, h10, h11, h12⟩, .of_below hb _⟩
/-- Put's good case. -/
def putGood (pages : Nat) (id : Int) (x : Pg) : Prop := 0 ≤ id ∧ id < (pages : Int) ∧ x.ok
theorem vw_put (h : Vw w B gd gl gp pages frames F q Now St D) (id : Int) (x : Pg) (st : Nat) (hst : st ≤ 9223372036854775807) (hq : q ≤ 2199023255552) :
    Calls Tryz.prog 12 #[.pointer (some ⟨gp, 0, none⟩), .int .i64 id, .agg x.cs, .int .i64 (st : Int)] w fun e w' =>
      (putGood pages id x ∧ e = .returned (.int .i64 0) ∧ Vw w' B gd gl gp pages frames F (q + 4102) (updN Now id.toNat x) (updN St id.toNat st) (fun y => y = id ∨ D y) ∨
        ¬ putGood pages id x ∧ e = .returned (.int .i64 1) ∧ Vw w' B gd gl gp pages frames F q Now St D) ∧ Out w w' (PI B w) := by
  obtain ⟨I, J, P, L, S, hp, h1, h2, rfl, h4, rfl, h6, h7, h8, h9, h10, h11, h12⟩ := h
  by_cases hg : putGood P.pages id x
  · obtain ⟨hi0, hi1, hx⟩ := hg
    obtain ⟨k, rfl⟩ : ∃ k : Nat, id = (k : Int) := ⟨id.toNat, by omega⟩
    refine (ps_put hp k (by omega) x hx st hst (by omega)).mono ?_
    rintro e w' ⟨p', J', P', L', S', rfl, eg, hr, hp', e1, e2, e3, ho⟩
    obtain ⟨l1, l2, l3, l4, l5⟩ := hr.lg hp.wl.ok
    rw [Int.toNat_natCast]
    exact ⟨.inl ⟨⟨hi0, hi1, hx⟩, rfl, _, J', P', L', S', hp', h1, h2, eg, e1.trans h4, e2, e3.trans h6, l1.trans h7, l2.trans h8, l3.trans h9, l4.trans h10, by omega, fun y hy => (hr.dirty hy).imp id (h12 y)⟩, pf_pi ho⟩
  · refine (pput_bad hp.pq id x (st : Int) ?_).mono ?_
    · by_cases h0 : 0 ≤ id ∧ id < (P.pages : Int)
      · exact .inr (.inr fun hx => hg ⟨h0.1, h0.2, hx⟩)
      · exact .inl h0
    rintro e w' ⟨rfl, hb⟩
    exact ⟨.inr ⟨hg, rfl, I, J, P, L, S, hp.kept hb, h1, h2, rfl, h4, rfl, h6, h7, h8, h9, h10, h11, h12⟩, .of_below hb _⟩
theorem vw_append (h : Vw w B gd gl gp pages frames F q Now St D) (rec : ByteArray) (hs : rec.size ≤ maxLen) :
    Calls Tryz.prog 10 #[.pointer (some ⟨gl, 0, none⟩), .string rec] w fun e w' =>
      e = .returned (.tuple #[.int .i64 ((apF F rec.size).2.1 : Nat), .int .i64 (apF F rec.size).2.2]) ∧ Vw w' B gd gl gp pages frames (apF F rec.size).1 q Now St D ∧ Out w w' (PI B w) := by
  have hF := h.fin_le
  obtain ⟨I, J, P, L, S, hp, rfl, h2, h3, h4, h5, h6, h7, h8, h9, h10, h11, h12⟩ := h
  refine (append_any hp.wl rec hp.hB hs (by omega)).mono ?_
  rintro e w' ⟨rfl, dv, pv, hw, ho, -⟩
  have hroom : L.room = 6912 - (F - 54) := by
    unfold Lg.room flr
    rw [h7, h8, h9]
  have ha : (L.append rec).2.1 = (apF F rec.size).2.1 ∧ (L.append rec).2.2 = (apF F rec.size).2.2 ∧ (L.append rec).1.fin = (apF F rec.size).1 ∧ (L.append rec).1.start = 54 ∧ (L.append rec).1.n = 128 ∧ (L.append rec).1.first = 0 := by
    unfold Lg.append apF
    rw [hroom]
    split
    · exact ⟨rfl, rfl, h7, h8, h9, h10⟩
    split
    · exact ⟨rfl, rfl, h7, h8, h9, h10⟩
    split
    · exact ⟨rfl, rfl, h7, h8, h9, h10⟩
    · exact ⟨h7, rfl, by show L.fin + _ = _; rw [h7], h8, h9, h10⟩
  have hty : ∀ k, k < w.heap.size → (k = I.g ∨ I.pv.ownBlock = some k ∨ I.dv.ownBlock = some k) → B ≤ k ∧ ∃ t cs, Bk w k t cs ∧ (t = 71 ∨ t = 3 ∨ t = 5) := fun k _ hk => by
    rcases hk with rfl | hk | hk
    · exact ⟨hp.wl.bg, _, _, hp.wl.box, .inl rfl⟩
    · obtain ⟨b1, b2, c, hc⟩ := owns_block hp.wl.plc hk
      exact ⟨b1, _, _, hc, .inr (.inl rfl)⟩
    · obtain ⟨b1, b2, c, hc⟩ := owns_block hp.wl.dat hk
      exact ⟨b1, _, _, hc, .inr (.inr rfl)⟩
  refine ⟨by rw [ha.1, ha.2.1], ⟨⟨I.g, I.d, dv, pv⟩, J, P, (L.append rec).1, S, ⟨hw, ?_, hp.ed, hp.el, hp.pv, ?_, Nat.le_trans hp.hB ho.size⟩, rfl, h2, h3, h4, h5, h6, ha.2.2.1, ha.2.2.2.1, ha.2.2.2.2.1, ha.2.2.2.2.2, h11, h12⟩, ?_⟩
  · refine hp.pq.out ho fun k hk hpk => ?_
    obtain ⟨-, t, cs, hc, ht⟩ := hty k hk hpk
    refine ⟨t, cs, hc, ?_⟩
    rcases ht with rfl | rfl | rfl <;> decide
  · rw [ha.2.2.2.2.1, ha.2.2.2.2.2, h4]
    decide
  · refine ho.mono fun k hk hpk => ?_
    obtain ⟨b1, t, cs, hc, ht⟩ := hty k hk hpk
    refine ⟨b1, t, cs, hc, ?_⟩
    rcases ht with rfl | rfl | rfl
    · left; unfold plT; decide
    · right; rfl
    · left; unfold plT; decide
theorem vw_flush (h : Vw w B gd gl gp pages frames F q Now St D) (hq : q ≤ 1099511627776) :
    Calls Tryz.prog 13 #[.pointer (some ⟨gp, 0, none⟩)] w fun e w' => e = .returned (.int .i64 0) ∧ Vw w' B gd gl gp pages frames F 0 Now St (fun _ => False) ∧ Out w w' (PI B w) ∧ (∃ (I : Wd) (J : Pd) (P : Po) (L : Lg) (S : Dsk), Ps w' B I J P L S Now St ∧ I.d.g = gd ∧ P.base = 128 ∧ P.pages = pages ∧ dirtyL P.ss = []) := by
  obtain ⟨I, J, P, L, S, hp, h1, h2, rfl, h4, h5, h6, h7, h8, h9, h10, h11, h12⟩ := h
  refine (pflush_any hp.wl hp.pq hp.ed hp.el hp.pv.good hp.hB (by omega)).mono ?_
  rintro e w' ⟨p', rfl, hw, hq', ho⟩
  obtain ⟨a, b, c, d, e1, e2, e3, e4⟩ := pv_flushAll hp.pv hp.pq.ok hp.wl.ok hp.fb
  obtain ⟨l1, l2, l3, l4⟩ := flushAll_lg P L S
  have hps : Ps w' B ⟨I.g, I.d.with p', I.dv, I.pv⟩ J (flushAll P L S).1 (flushAll P L S).2.1 (flushAll P L S).2.2.1 Now St := ⟨hw, hq', hp.ed, hp.el, b, by rw [l3, l4, e1]; exact hp.fb, Nat.le_trans hp.hB ho.size⟩
  refine ⟨by rw [a], ⟨_, J, _, _, _, hps, h1, h2, rfl, e1.trans h4, e2.trans h5, e3.trans h6, l1.trans h7, l2.trans h8, l3.trans h9, l4.trans h10, by rw [e4]; exact Nat.zero_le _, fun x hx => by rw [d] at hx; cases hx⟩, pf_pi ho, _, J, _, _, _, hps, h2, e1.trans h4, e2.trans h5, d⟩
/-- What is dirty: numbers that rise, no more than there are frames. -/
theorem vw_dirty (h : Vw w B gd gl gp pages frames F q Now St D) :
    Calls Tryz.prog 33 #[.pointer (some ⟨gp, 0, none⟩)] w fun e w' => ∃ (v : Value) (l : List Int), e = .returned v ∧ w'.ownsRow w.heap.size 3 1 v l.length (l.map (Value.int .i64)) ∧ l.length ≤ frames ∧ l.length ≤ 256 ∧ l.Pairwise (· < ·) ∧ (∀ x ∈ l, D x) ∧ (∀ x ∈ l, 0 ≤ x ∧ x < 1024) ∧ Below w.heap.size w w' := by
  obtain ⟨I, J, P, L, S, hp, h1, h2, rfl, h4, h5, rfl, h7, h8, h9, h10, h11, h12⟩ := h
  refine (dirty_any hp.pq).mono ?_
  rintro e w' ⟨v, rfl, ho, hb⟩
  have hl : (sortedD P).length ≤ P.ss.length := by rw [sortedD_len]; exact dirtyL_len _
  refine ⟨v, sortedD P, rfl, ho, Nat.le_trans hl hp.pq.ok.len, Nat.le_trans hl hp.pq.few, sortedD_asc (dirtyL_nodup (hp.pv.apart hp.pq.ok)), fun x hx => ?_, fun x hx => ?_, hb⟩
  · refine h12 x ?_
    unfold sortedD at hx
    exact (List.mergeSort_perm _ _).mem_iff.1 hx
  · obtain ⟨s, hs, -, rfl⟩ := sortedD_mem.1 hx
    have h1 := (hp.pv.good s hs).1
    have h2 := hp.pq.ok.p2
    rcases hp.pq.ok.ids s hs with h3 | h3 <;> omega
/-- A map of the law's own is laid in. -/
theorem Vw.map_kept {P : Program} {k : TypeId} {F n : Nat} {f : Lit → Option Value} (h : Vw w B gd gl gp pages frames Fn q Now St D) (hg : w.grownBy w' (some F)) (hm : Mp w P k F n f) : Vw w' B gd gl gp pages frames Fn q Now St D := by
  obtain ⟨I, J, P, L, S, hp, h⟩ := h
  have hb : ∀ j t cs, Bk w j t cs → w'.heap[j]? = w.heap[j]? := fun j t cs hc => hg.block j hc.lt fun e => hm.ne_bk hc (by injection e with e; exact e.symm)
  exact ⟨I, J, P, L, S, ⟨hp.wl.pool fun j _ ⟨t, cs, hc, _⟩ => hb j t cs hc, hp.pq.of_same fun j _ ⟨t, cs, hc, _⟩ => hb j t cs hc, hp.ed, hp.el, hp.pv, hp.fb, Nat.le_trans hp.hB hg.size⟩, h⟩
/-- A volume that has just been made. -/
theorem Vw.new {w3 : World} {I : Wd} {gp N : Nat} (hN : N = 128 + 4 * pages) (hw : Wl w B I (Lg.new 0 128) (.start (blanks N))) (hb : Below w.heap.size w w3) (hq : Pq w3 B ⟨gp, .slice none 0 0, [], I.d.ptr, I.ptr⟩ ⟨128, pages, frames, [], 0⟩) (hB : B ≤ w.heap.size) :
    Vw w3 B I.d.g I.g gp pages frames 54 0 (fun _ => Pg.zero) (fun _ => 0) (fun _ => False) :=
  ⟨I, _, _, _, _, ⟨hw.kept hb, hq, rfl, rfl, Pv.new 128 pages frames N (by omega) _ ⟨rfl, rfl⟩ rfl (by simp [Dsk.start, blanks]), by show 0 + 128 ≤ 128; omega, Nat.le_trans hB hb.size⟩, rfl, rfl, rfl, rfl, rfl, rfl, rfl, rfl, rfl, rfl, Nat.le_refl _, fun x hx => by cases hx⟩
end
end Go.Proofs.YtgafajbdmegfgaaGreat
namespace Go.Proofs.YtgafajbdmegfgaaGreat
open Go.RowKit

theorem pbuild0_if {ops : Array Oper} {rest : List Oper} {o : Oper} {a : Act} {w : World} {Q : Exit → Act → World → Prop} (ho : o.op = .build 41 #[]) (hw : Region.wanted o (yielded ops a.tmps) = true) (h : wpList Tryz.prog ops Q rest (a.put o.dst (.agg Pg.zero.cs)) w) : wpList Tryz.prog ops Q (o :: rest) a w := by
  refine wpList_step fun K hK => ?_
  rw [if_pos hw]
  have hb : (Instr.build 41 #[]).run Tryz.prog w = .ok (.agg Pg.zero.cs) w := by kernel_rfl
  unfold Oper.wp execOp
  simp only [ho, Sem.run_bind, Sem.run_pure, Result.andThen_ok, List.map_toArray, List.map_nil, hb]
  exact hK _ _ h
theorem run_start (N : Nat) : PRun (Dsk.start (blanks N)) := ⟨rfl, rfl⟩
set_option maxRecDepth 100000 in
set_option maxHeartbeats 8000000 in
theorem awake12_any (w : World) : Calls Tryz.prog 4 #[] w fun e w' => e = .returned (.bool true) ∧ Below w.heap.size w w' := by
  have CN := new_good 140 w (by omega) (by omega)
  rw [show ((140 : Nat) : Int) = 140 from rfl] at CN
  have CN := Lib.hid CN
  go_enter Tryz.func4, Tryz.ntmps4
  go_wp2_with fail
  refine CN.out.mono ?_
  rintro e w1 ⟨I, rfl, hd, hb⟩
  have D1 := Lib.hid hd; have B1 := Lib.hid hb
  have CC := create_good 140 0 128 hd (by omega) (by omega) (by omega) hb.size
  rw [show ((0 : Nat) : Int) = 0 from rfl, show ((128 : Nat) : Int) = 128 from rfl] at CC
  have CC := Lib.hid CC
  clear hd hb CN
  obtain ⟨d, f, n, fc, nc, p⟩ := I
  unfold Ids.ptr at *
  dsimp only at *
  go_wp2_with fail
  refine CC.out.mono ?_
  rintro e w2 ⟨g, p', rfl, hw, hb⟩
  have B2 := Lib.hid (B1.out.trans hb)
  have CP := pnew_good hw 128 3 4 (by omega) (by omega) (by omega) (by omega) (by show 128 + 4 * 3 ≤ (blanks 140).length; simp [blanks]) (Nat.le_trans B1.out.size hb.size)
  unfold Ids.ptr Wd.ptr Ids.with at CP
  dsimp only at CP
  rw [show ((128 : Nat) : Int) = 128 from rfl, show ((3 : Nat) : Int) = 3 from rfl, show ((4 : Nat) : Int) = 4 from rfl] at CP
  have CP := Lib.hid CP
  have W2 := Lib.hid hw
  clear hw hb CC B1 D1
  go_wp2_with fail
  refine CP.out.mono ?_
  rintro e w3 ⟨gp, rfl, hq, hb⟩
  have PS := Lib.hid (show Ps w3 w.heap.size _ _ _ _ _ (fun _ => Pg.zero) (fun _ => 0) from ⟨W2.out.kept hb, hq, rfl, rfl, Pv.new 128 3 4 140 (by omega) _ (run_start 140) rfl (by simp [Dsk.start, blanks]), by show 0 + 128 ≤ 128; omega, Nat.le_trans B2.out.size hb.size⟩)
  have B3 := Lib.hid (below_then B2.out hb B2.out.size)
  clear hq hb CP W2 B2
  have hnp : ¬ plT 41 := by unfold plT; decide
  have NP := Lib.hid hnp
  clear hnp
  have PS4 := Lib.hid (PS.out.kept ((Below.refl w3.heap.size w3).alloc (Nat.le_refl _) (.cells pgH1.cs 41)))
  have B4 := Lib.hid (B3.out.alloc B3.out.size (.cells pgH1.cs 41))
  have K4 := Lib.hid (Bk.new w3 41 pgH1.cs)
  obtain ⟨G7, hG7⟩ : ∃ G7, G7 = w3.heap.size := ⟨_, rfl⟩
  rw [← hG7] at K4
  have HG7 := Lib.hid hG7
  clear hG7 PS B3
  go_upto_region 5 with (first | (refine pbuildH1 rfl rfl ?_) | (refine store_page_new rfl _ _ rfl pgH1 rfl rfl ?_; rw [← HG7.out]; clear HG7; generalize w3.alloc (.cells pgH1.cs 41) = w4 at *))
  have CU := ps_put PS4.out 1 (by show 1 < 3; omega) pgH1 pgH1_ok 54 (by omega) (Nat.zero_le _)
  rw [show ((1 : Nat) : Int) = 1 from rfl, show ((54 : Nat) : Int) = 54 from rfl] at CU
  unfold Pd.ptr at CU
  dsimp only at CU
  have CU := Lib.hid CU
  go_wp2_with (refine load_page rfl _ rfl G7 pgH1 rfl K4.out ?_)
  refine CU.out.mono ?_
  rintro e w5 ⟨p5, J5, P5, L5, S5, rfl, eg5, -, hps, -, ep5, -, ho⟩
  have PS5 := Lib.hid hps; have EG5 := Lib.hid eg5
  have K5 := Lib.hid (bk_pf ho K4.out NP.out)
  have B5 := Lib.hid (B4.out.trans (pf_below ho PS4.out.hB))
  have CG := ps_get hps 1 (by rw [ep5]; show 1 < 3; omega)
  rw [show ((1 : Nat) : Int) = 1 from rfl] at CG
  unfold Pd.ptr at CG
  rw [eg5] at CG
  have CG := Lib.hid CG
  have EP5 := Lib.hid (show P5.pages = 3 from ep5)
  clear hps ho eg5 ep5 CU PS4 K4 B4
  go_wp2_with fail
  refine CG.out.mono ?_
  rintro e w6 ⟨J6, P6, y, rfl, hy, eg6, hps, -, ep6, -, ho⟩
  have hyc : y.cs = pgH1.cs := hy
  rw [hyc]
  have PS6 := Lib.hid (hps.kept ((Below.refl w6.heap.size w6).alloc (Nat.le_refl _) (.cells pgH1.cs 41)))
  have K6 := Lib.hid ((bk_pf ho K5.out NP.out).alloc (.cells pgH1.cs 41))
  have Y6 := Lib.hid (Bk.new w6 41 pgH1.cs)
  have B6 := Lib.hid ((B5.out.trans (pf_below ho PS5.out.hB)).alloc (B5.out.trans (pf_below ho PS5.out.hB)).size (.cells pgH1.cs 41))
  have EP6 := Lib.hid (show P6.pages = 3 from ep6.trans EP5.out)
  have EG6 := Lib.hid (show J6.g = gp by first | exact eg6.trans EG5.out | exact eg6)
  obtain ⟨G9, hG9⟩ : ∃ G9, G9 = w6.heap.size := ⟨_, rfl⟩
  rw [← hG9] at Y6
  have HG9 := Lib.hid hG9
  clear hy hyc eg6 hps ep6 ho hG9 CG PS5 K5 B5
  go_upto_region 7 with (refine store_page_new rfl _ _ rfl pgH1 rfl rfl ?_; rw [← HG9.out]; clear HG9; generalize w6.alloc (.cells pgH1.cs 41) = w7 at *)
  have CG := ps_get PS6.out 0 (by have := EP6.out; omega)
  rw [show ((0 : Nat) : Int) = 0 from rfl] at CG
  unfold Pd.ptr at CG
  rw [EG6.out] at CG
  have CG := Lib.hid CG
  go_wp2_with fail
  refine CG.out.mono ?_
  rintro e w8 ⟨J8, P8, z, rfl, hz, -, hps, -, -, -, ho⟩
  have hzc : z.cs = Pg.zero.cs := hz
  rw [hzc]
  have X8 := Lib.hid ((bk_pf ho K6.out NP.out).alloc (.cells Pg.zero.cs 41))
  have Y8 := Lib.hid ((bk_pf ho Y6.out NP.out).alloc (.cells Pg.zero.cs 41))
  have Z8 := Lib.hid (Bk.new w8 41 Pg.zero.cs)
  have B8 := Lib.hid ((B6.out.trans (pf_below ho PS6.out.hB)).alloc (B6.out.trans (pf_below ho PS6.out.hB)).size (.cells Pg.zero.cs 41))
  obtain ⟨G11, hG11⟩ : ∃ G11, G11 = w8.heap.size := ⟨_, rfl⟩
  rw [← hG11] at Z8
  have HG11 := Lib.hid hG11
  clear hz hzc hps ho hG11 CG PS6 K6 Y6 B6
  go_upto_region 8 with (refine store_page_new rfl _ _ rfl Pg.zero rfl rfl ?_; rw [← HG11.out]; clear HG11; generalize w8.alloc (.cells Pg.zero.cs 41) = w9 at *)
  have pe1 : ∀ w, (binOp .eql 41 (.agg pgH1.cs) (.agg pgH1.cs)).run Tryz.prog w = .ok (.bool true) w := fun w => by have := page_eql pgH1 pgH1 w; rw [pgB_self] at this; exact this
  have pe2 : ∀ w, (binOp .eql 41 (.agg Pg.zero.cs) (.agg Pg.zero.cs)).run Tryz.prog w = .ok (.bool true) w := fun w => by have := page_eql Pg.zero Pg.zero w; rw [pgB_self] at this; exact this
  go_wp2_with (first
    | (refine load_page_if _ rfl (by first | rfl | kernel_rfl) G9 pgH1 rfl Y8.out ?_)
    | (refine load_page_if _ rfl (by first | rfl | kernel_rfl) G7 pgH1 rfl X8.out ?_)
    | (refine load_page_if _ rfl (by first | rfl | kernel_rfl) G11 Pg.zero rfl Z8.out ?_)
    | (refine pbuild0_if rfl (by first | rfl | kernel_rfl) ?_))
  go_ret
  exact ⟨rfl, B8.out⟩
end Go.Proofs.YtgafajbdmegfgaaGreat
