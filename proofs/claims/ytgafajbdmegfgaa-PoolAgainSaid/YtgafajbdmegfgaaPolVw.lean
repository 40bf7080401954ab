/- Layer 12: a volume under way, told by what the laws see of it. -/
import Derived.Test.YtgafajbdmegfgaaPolRead
import Derived.Test.YtgafajbdmegfgaaWalApp
import Derived.Test.YtgafajbdmegfgaaMap
set_option linter.unusedVariables false
set_option linter.unusedSimpArgs false
namespace Go.Proofs.Ytgafajbdmegfgaa
open Go.RowKit

theorem likeS_dirty : ∀ {l m : List Sl}, l.length = m.length → (∀ (j : Nat) (h : j < l.length) (h' : j < m.length), (m[j]).id = (l[j]).id ∧ (m[j]).di = (l[j]).di) → dirtyL m = dirtyL l
  | [], [], _, _ => rfl
  | [], _ :: _, h, _ => by simp at h
  | _ :: _, [], h, _ => by simp at h
  | a :: l, b :: m, h, hh => by
    have h0 := hh 0 (by simp) (by simp)
    have ih := likeS_dirty (l := l) (m := m) (by simpa using h) (fun j h1 h2 => hh (j + 1) (by simpa using h1) (by simpa using h2))
    rw [dirtyL_cons, dirtyL_cons, ih]
    have e1 : b.id = a.id := h0.1
    have e2 : b.di = a.di := h0.2
    rw [e1, e2]
/-- What is dirty behind spare is what was. -/
theorem Sp.dirty {P P' : Po} {i : Nat} {ok : Bool} (h : Sp P P' i ok) {x : Int} (hx : x ∈ dirtyL P'.ss) : x ∈ dirtyL P.ss := by
  obtain ⟨s, hs, hd, rfl⟩ := dirtyL_mem.1 hx
  obtain ⟨j, hj, rfl⟩ := List.mem_iff_getElem.1 hs
  by_cases hlt : j < P.ss.length
  · obtain ⟨hj', hl⟩ := h.same j hlt
    exact dirtyL_mem.2 ⟨P.ss[j], List.getElem_mem hlt, by rw [← hl.2.2.2]; exact hd, hl.1.symm⟩
  · rcases h.new with e1 | ⟨e1, -, -, e4⟩
    · omega
    · obtain rfl : j = P.ss.length := by omega
      rw [List.getElem?_eq_getElem hj] at e4
      injection e4 with e4
      rw [e4] at hd
      cases hd
theorem dirty_set {l : List Sl} {j : Nat} {s : Sl} {x : Int} (hx : x ∈ dirtyL (l.set j s)) : (s.di = true ∧ s.id = x) ∨ x ∈ dirtyL l := by
  obtain ⟨t, ht, hd, rfl⟩ := dirtyL_mem.1 hx
  rcases List.mem_or_eq_of_mem_set ht with h | rfl
  · exact .inr (dirtyL_mem.2 ⟨t, h, hd, rfl⟩)
  · exact .inl ⟨hd, rfl⟩
theorem GetRel.dirty {P P' : Po} {S : Dsk} {id : Nat} {x : Pg} {er : Int} (h : GetRel P S id P' x er) {y : Int} (hy : y ∈ dirtyL P'.ss) : y ∈ dirtyL P.ss := by
  rcases h with ⟨j, hj, -, rfl, -, -⟩ | ⟨-, -, rfl, -, -⟩ | ⟨-, -, -, P1, i, ok, hsp, ⟨-, rfl⟩ | ⟨-, hi, rfl⟩⟩
  · rcases dirty_set hy with ⟨h1, h2⟩ | h
    · exact dirtyL_mem.2 ⟨P.ss[j], List.getElem_mem hj, h1, h2⟩
    · exact h
  · exact hy
  · exact hsp.dirty hy
  · rcases dirty_set hy with ⟨h1, -⟩ | h
    · cases h1
    · exact hsp.dirty h
theorem PutRel.dirty {P P' : Po} {L L' : Lg} {S S' : Dsk} {id : Nat} {x : Pg} {st : Nat} (h : PutRel P L S id x st P' L' S' 0) {y : Int} (hy : y ∈ dirtyL P'.ss) : y = (id : Int) ∨ y ∈ dirtyL P.ss := by
  rcases h with ⟨j, hj, -, -, -, -, rfl⟩ | ⟨-, P1, i, hroom, hi, rfl⟩
  · rcases dirty_set hy with ⟨-, h2⟩ | h
    · exact .inl h2.symm
    · exact .inr h
  · rw [if_pos rfl] at hy
    rcases dirty_set hy with ⟨-, h2⟩ | h
    · exact .inl h2.symm
    · right
      rcases hroom with ⟨ok, hsp, -, -, -, -⟩ | ⟨P2, k, hi2, hsp, -, -, rfl⟩
      · exact hsp.dirty h
      · rw [if_pos rfl] at h
        rcases dirty_set h with ⟨h1, -⟩ | h
        · cases h1
        · exact hsp.dirty h
theorem PutRel.lg {P P' : Po} {L L' : Lg} {S S' : Dsk} {id : Nat} {x : Pg} {st : Nat} {er : Int} (hL : L.ok) (h : PutRel P L S id x st P' L' S' er) : L'.fin = L.fin ∧ L'.start = L.start ∧ L'.n = L.n ∧ L'.first = L.first ∧ S'.pend.length ≤ S.pend.length + 4102 := by
  have hlf : ∀ at_ : Int, (L.flush S at_).1.fin = L.fin ∧ (L.flush S at_).1.start = L.start ∧ (L.flush S at_).1.n = L.n ∧ (L.flush S at_).1.first = L.first := fun at_ => by
    unfold Lg.flush
    split
    · exact ⟨rfl, rfl, rfl, rfl⟩
    split
    · exact ⟨rfl, rfl, rfl, rfl⟩
    split
    · exact ⟨rfl, rfl, rfl, rfl⟩
    · exact ⟨rfl, rfl, rfl, rfl⟩
  rcases h with ⟨j, hj, -, rfl, rfl, -, -⟩ | ⟨-, P1, i, hroom, hi, -⟩
  · exact ⟨rfl, rfl, rfl, rfl, by omega⟩
  · rcases hroom with ⟨ok, -, -, rfl, rfl, -⟩ | ⟨P2, k, hi2, -, -, hfl, -⟩
    · exact ⟨rfl, rfl, rfl, rfl, by omega⟩
    · have h1 := sl_flush_pend hL (P2.ss[i]) P2.base S
      have h2 := hlf ((P2.ss[i]).st : Int)
      have e : ((P2.ss[i]).flush P2.base L S).1 = (L.flush S ((P2.ss[i]).st : Int)).1 := by
        unfold Sl.flush
        split <;> rfl
      rw [← hfl] at h1 e
      dsimp only at h1 e
      rw [e]
      exact ⟨h2.1, h2.2.1, h2.2.2.1, h2.2.2.2, h1⟩
theorem flushL_lg : ∀ (l : List Int) (P : Po) (L : Lg) (S : Dsk), (flushL l P L S).2.1.fin = L.fin ∧ (flushL l P L S).2.1.start = L.start ∧ (flushL l P L S).2.1.n = L.n ∧ (flushL l P L S).2.1.first = L.first
  | [], P, L, S => ⟨rfl, rfl, rfl, rfl⟩
  | x :: l, P, L, S => by
    have hlf : ∀ s : Sl, (s.flush P.base L S).1.fin = L.fin ∧ (s.flush P.base L S).1.start = L.start ∧ (s.flush P.base L S).1.n = L.n ∧ (s.flush P.base L S).1.first = L.first := fun s => by
      have e : (s.flush P.base L S).1 = (L.flush S (s.st : Int)).1 := by
        unfold Sl.flush
        split <;> rfl
      rw [e]
      unfold Lg.flush
      split
      · exact ⟨rfl, rfl, rfl, rfl⟩
      split
      · exact ⟨rfl, rfl, rfl, rfl⟩
      split
      · exact ⟨rfl, rfl, rfl, rfl⟩
      · exact ⟨rfl, rfl, rfl, rfl⟩
    have h := hlf (P.ss.getD (findL x P.ss).toNat Sl.fresh)
    rw [flushL]
    split
    · have ih := flushL_lg l { P with ss := P.ss.set (findL x P.ss).toNat { (P.ss.getD (findL x P.ss).toNat Sl.fresh) with di := false } } ((P.ss.getD (findL x P.ss).toNat Sl.fresh).flush P.base L S).1 ((P.ss.getD (findL x P.ss).toNat Sl.fresh).flush P.base L S).2.1
      exact ⟨ih.1.trans h.1, ih.2.1.trans h.2.1, ih.2.2.1.trans h.2.2.1, ih.2.2.2.trans h.2.2.2⟩
    · exact h
theorem flushAll_lg (P : Po) (L : Lg) (S : Dsk) : (flushAll P L S).2.1.fin = L.fin ∧ (flushAll P L S).2.1.start = L.start ∧ (flushAll P L S).2.1.n = L.n ∧ (flushAll P L S).2.1.first = L.first := by
  have h := flushL_lg (sortedD P) P L S
  unfold flushAll
  split
  · exact h
  · exact h
theorem flushL_lok : ∀ (l : List Int) (P : Po) (L : Lg) (S : Dsk), L.ok → (flushL l P L S).2.1.ok
  | [], P, L, S, h => h
  | x :: l, P, L, S, h => by
    have h1 := sflush_ok h S (P.ss.getD (findL x P.ss).toNat Sl.fresh) P.base
    rw [flushL]
    split
    · exact flushL_lok l _ _ _ h1.1
    · exact h1.1

/-- Where Append would put a record: the new end, the place, the error. -/
def apF (F : Nat) (z : Nat) : Nat × Nat × Int :=
  if z = 0 then (F, 0, 1) else if 65535 < z then (F, 0, 2) else if 6912 - (F - 54) < z + 2 then (F, 0, 70) else (F + (2 + z), F, 0)
/-- A volume under way: the device's block, the log's, the pool's; pages, frames; the log's end; the writes that are pending; what the pages are and their records' places; what may be dirty. -/
def Vw (w : World) (B gd gl gp pages frames F q : Nat) (Now : Nat → Pg) (St : Nat → Nat) (D : Int → Prop) : Prop :=
  ∃ (I : Wd) (J : Pd) (P : Po) (L : Lg) (S : Dsk), Ps w B I J P L S Now St ∧ I.g = gl ∧ I.d.g = gd ∧ J.g = gp ∧ P.base = 128 ∧ P.pages = pages ∧ P.frames = frames ∧ L.fin = F ∧ L.start = 54 ∧ L.n = 128 ∧ L.first = 0 ∧ S.pend.length ≤ q ∧ ∀ x ∈ dirtyL P.ss, D x
section
variable {w w' : World} {B gd gl gp pages frames F Fn q : Nat} {Now : Nat → Pg} {St : Nat → Nat} {D : Int → Prop}
theorem Vw.kept (h : Vw w B gd gl gp pages frames F q Now St D) (hb : Below w.heap.size w w') : Vw w' B gd gl gp pages frames F q Now St D := by
  obtain ⟨I, J, P, L, S, hp, h⟩ := h
  exact ⟨I, J, P, L, S, hp.kept hb, h⟩
theorem Vw.hB (h : Vw w B gd gl gp pages frames F q Now St D) : B ≤ w.heap.size := by
  obtain ⟨I, J, P, L, S, hp, h⟩ := h
  exact hp.hB
theorem Vw.alloc (h : Vw w B gd gl gp pages frames F q Now St D) (o : Obj) : Vw (w.alloc o) B gd gl gp pages frames F q Now St D := h.kept ((Below.refl w.heap.size w).alloc (Nat.le_refl _) o)
theorem Vw.weak (h : Vw w B gd gl gp pages frames F q Now St D) {q' : Nat} (hq : q ≤ q') {D' : Int → Prop} (hD : ∀ x, D x → D' x) : Vw w B gd gl gp pages frames F q' Now St D' := by
  obtain ⟨I, J, P, L, S, hp, h1, h2, h3, h4, h5, h6, h7, h8, h9, h10, h11, h12⟩ := h
  exact ⟨I, J, P, L, S, hp, h1, h2, h3, h4, h5, h6, h7, h8, h9, h10, Nat.le_trans h11 hq, fun x hx => hD x (h12 x hx)⟩
theorem Vw.fin_le (h : Vw w B gd gl gp pages frames F q Now St D) : 54 ≤ F ∧ F ≤ 6966 := by
  obtain ⟨I, J, P, L, S, hp, h1, h2, h3, h4, h5, h6, h7, h8, h9, h10, -⟩ := h
  have a := hp.wl.ok.rm
  have b := hp.wl.ok.sf
  have c := hp.wl.ok.fe
  rw [h7, h8, h9] at a
  rw [h8] at b
  rw [h7] at c
  unfold flr at a
  omega
/-- What the log's own work may touch beside the pool's: numbers. -/
def plI (t : TypeId) : Prop := plT t ∨ t = 3
def PI (B : Nat) (w : World) (k : Nat) : Prop := B ≤ k ∧ ∃ t cs, Bk w k t cs ∧ plI t
theorem pf_pi {a b : World} (h : Out a b (PF B a)) : Out a b (PI B a) := h.mono fun i _ ⟨h1, t, cs, hc, ht⟩ => ⟨h1, t, cs, hc, .inl ht⟩
theorem bk_pi {k : Nat} {t : TypeId} {cs : Array Value} (h : Out w w' (PI B w)) (hk : Bk w k t cs) (ht : ¬ plI t) : Bk w' k t cs :=
  h.bk hk fun ⟨_, t', cs', hc, ht'⟩ => by
    have e : t = t' := Classical.byContradiction fun hne => Bk.ne_ hk hc hne rfl
    subst e
    exact ht ht'
theorem own_pi {base : Nat} {e : TypeId} {size : Nat} {v : Value} {n : Nat} {xs : List Value} (h : w.ownsRow base e size v n xs) (ho : Out w w' (PI B w)) (ht : ¬ plI e) : w'.ownsRow base e size v n xs :=
  owns_of_block h fun k hk => by
    obtain ⟨h1, h2, c, hc⟩ := owns_block h hk
    exact (bk_pi ho hc ht).trans hc.symm
theorem pi_below (h : Out w w' (PI B w)) (hB : B ≤ w.heap.size) : Below B w w' := h.below hB fun k hk => hk.1
theorem vw_get (h : Vw w B gd gl gp pages frames F q Now St D) (id : Int) :
    Calls Try.prog 12 #[.pointer (some ⟨gp, 0, none⟩), .int .i64 id] w fun e w' =>
      (0 ≤ id ∧ id < (pages : Int) ∧ e = .returned (.tuple #[.agg (Now id.toNat).cs, .int .i64 0]) ∨ ¬ (0 ≤ id ∧ id < (pages : Int)) ∧ e = .returned (.tuple #[.agg Pg.zero.cs, .int .i64 1])) ∧
      Vw w' B gd gl gp pages frames F q Now St D ∧ Out w w' (PI B w) := by
  obtain ⟨I, J, P, L, S, hp, h1, h2, rfl, h4, rfl, h6, h7, h8, h9, h10, h11, h12⟩ := h
  by_cases hid : 0 ≤ id ∧ id < (P.pages : Int)
  · obtain ⟨k, rfl⟩ : ∃ k : Nat, id = (k : Int) := ⟨id.toNat, by omega⟩
    refine (pget_any hp.wl.dsk hp.pq hp.ed k (by omega) hp.pv.fit hp.hB).mono ?_
    rintro e w' ⟨J', P', x, er, rfl, hq, eg, edp, elp, hr, ho⟩
    obtain ⟨rfl, hx, hv, e1, e2, e3⟩ := hp.pv.get (by omega) hr
    refine ⟨.inl ⟨hid.1, hid.2, by rw [Int.toNat_natCast, hx]⟩, ⟨I, J', P', L, S, ⟨hp.wl.sf ho, hq, edp.trans hp.ed, elp.trans hp.el, hv, by rw [e1]; exact hp.fb, Nat.le_trans hp.hB ho.size⟩, h1, h2, eg, e1.trans h4, e2, e3.trans h6, h7, h8, h9, h10, h11, fun y hy => h12 y (hr.dirty hy)⟩, pf_pi (sf_pf ho)⟩
  · refine (pget_bad hp.pq id hid).mono ?_
    rintro e w' ⟨rfl, hb⟩
    exact ⟨.inr ⟨hid, rfl⟩, ⟨I, J, P, L, S, hp.kept hb, h1, h2, rfl, h4, rfl, h6, h7, h8, h9, h10, h11, h12⟩, .of_below hb _⟩
/-- Put's good case. -/
def putGood (pages : Nat) (id : Int) (x : Pg) : Prop := 0 ≤ id ∧ id < (pages : Int) ∧ x.ok
theorem vw_put (h : Vw w B gd gl gp pages frames F q Now St D) (id : Int) (x : Pg) (st : Nat) (hst : st ≤ 9223372036854775807) (hq : q ≤ 2199023255552) :
    Calls Try.prog 15 #[.pointer (some ⟨gp, 0, none⟩), .int .i64 id, .agg x.cs, .int .i64 (st : Int)] w fun e w' =>
      (putGood pages id x ∧ e = .returned (.int .i64 0) ∧ Vw w' B gd gl gp pages frames F (q + 4102) (updN Now id.toNat x) (updN St id.toNat st) (fun y => y = id ∨ D y) ∨
        ¬ putGood pages id x ∧ e = .returned (.int .i64 1) ∧ Vw w' B gd gl gp pages frames F q Now St D) ∧ Out w w' (PI B w) := by
  obtain ⟨I, J, P, L, S, hp, h1, h2, rfl, h4, rfl, h6, h7, h8, h9, h10, h11, h12⟩ := h
  by_cases hg : putGood P.pages id x
  · obtain ⟨hi0, hi1, hx⟩ := hg
    obtain ⟨k, rfl⟩ : ∃ k : Nat, id = (k : Int) := ⟨id.toNat, by omega⟩
    refine (ps_put hp k (by omega) x hx st hst (by omega)).mono ?_
    rintro e w' ⟨p', J', P', L', S', rfl, eg, hr, hp', e1, e2, e3, ho⟩
    obtain ⟨l1, l2, l3, l4, l5⟩ := hr.lg hp.wl.ok
    rw [Int.toNat_natCast]
    exact ⟨.inl ⟨⟨hi0, hi1, hx⟩, rfl, _, J', P', L', S', hp', h1, h2, eg, e1.trans h4, e2, e3.trans h6, l1.trans h7, l2.trans h8, l3.trans h9, l4.trans h10, by omega, fun y hy => (hr.dirty hy).imp id (h12 y)⟩, pf_pi ho⟩
  · refine (pput_bad hp.pq id x (st : Int) ?_).mono ?_
    · by_cases h0 : 0 ≤ id ∧ id < (P.pages : Int)
      · exact .inr (.inr fun hx => hg ⟨h0.1, h0.2, hx⟩)
      · exact .inl h0
    rintro e w' ⟨rfl, hb⟩
    exact ⟨.inr ⟨hg, rfl, I, J, P, L, S, hp.kept hb, h1, h2, rfl, h4, rfl, h6, h7, h8, h9, h10, h11, h12⟩, .of_below hb _⟩
theorem vw_append (h : Vw w B gd gl gp pages frames F q Now St D) (rec : ByteArray) (hs : rec.size ≤ maxLen) :
    Calls Try.prog 14 #[.pointer (some ⟨gl, 0, none⟩), .string rec] w fun e w' =>
      e = .returned (.tuple #[.int .i64 ((apF F rec.size).2.1 : Nat), .int .i64 (apF F rec.size).2.2]) ∧ Vw w' B gd gl gp pages frames (apF F rec.size).1 q Now St D ∧ Out w w' (PI B w) := by
  have hF := h.fin_le
  obtain ⟨I, J, P, L, S, hp, rfl, h2, h3, h4, h5, h6, h7, h8, h9, h10, h11, h12⟩ := h
  refine (append_any hp.wl rec hp.hB hs (by omega)).mono ?_
  rintro e w' ⟨rfl, dv, pv, hw, ho, -⟩
  have hroom : L.room = 6912 - (F - 54) := by
    unfold Lg.room flr
    rw [h7, h8, h9]
  have ha : (L.append rec).2.1 = (apF F rec.size).2.1 ∧ (L.append rec).2.2 = (apF F rec.size).2.2 ∧ (L.append rec).1.fin = (apF F rec.size).1 ∧ (L.append rec).1.start = 54 ∧ (L.append rec).1.n = 128 ∧ (L.append rec).1.first = 0 := by
    unfold Lg.append apF
    rw [hroom]
    split
    · exact ⟨rfl, rfl, h7, h8, h9, h10⟩
    split
    · exact ⟨rfl, rfl, h7, h8, h9, h10⟩
    split
    · exact ⟨rfl, rfl, h7, h8, h9, h10⟩
    · exact ⟨h7, rfl, by show L.fin + _ = _; rw [h7], h8, h9, h10⟩
  have hty : ∀ k, k < w.heap.size → (k = I.g ∨ I.pv.ownBlock = some k ∨ I.dv.ownBlock = some k) → B ≤ k ∧ ∃ t cs, Bk w k t cs ∧ (t = 71 ∨ t = 3 ∨ t = 5) := fun k _ hk => by
    rcases hk with rfl | hk | hk
    · exact ⟨hp.wl.bg, _, _, hp.wl.box, .inl rfl⟩
    · obtain ⟨b1, b2, c, hc⟩ := owns_block hp.wl.plc hk
      exact ⟨b1, _, _, hc, .inr (.inl rfl)⟩
    · obtain ⟨b1, b2, c, hc⟩ := owns_block hp.wl.dat hk
      exact ⟨b1, _, _, hc, .inr (.inr rfl)⟩
  refine ⟨by rw [ha.1, ha.2.1], ⟨⟨I.g, I.d, dv, pv⟩, J, P, (L.append rec).1, S, ⟨hw, ?_, hp.ed, hp.el, hp.pv, ?_, Nat.le_trans hp.hB ho.size⟩, rfl, h2, h3, h4, h5, h6, ha.2.2.1, ha.2.2.2.1, ha.2.2.2.2.1, ha.2.2.2.2.2, h11, h12⟩, ?_⟩
  · refine hp.pq.out ho fun k hk hpk => ?_
    obtain ⟨-, t, cs, hc, ht⟩ := hty k hk hpk
    refine ⟨t, cs, hc, ?_⟩
    rcases ht with rfl | rfl | rfl <;> decide
  · rw [ha.2.2.2.2.1, ha.2.2.2.2.2, h4]
    decide
  · refine ho.mono fun k hk hpk => ?_
    obtain ⟨b1, t, cs, hc, ht⟩ := hty k hk hpk
    refine ⟨b1, t, cs, hc, ?_⟩
    rcases ht with rfl | rfl | rfl
    · left; unfold plT; decide
    · right; rfl
    · left; unfold plT; decide
theorem vw_flush (h : Vw w B gd gl gp pages frames F q Now St D) (hq : q ≤ 1099511627776) :
    Calls Try.prog 17 #[.pointer (some ⟨gp, 0, none⟩)] w fun e w' => e = .returned (.int .i64 0) ∧ Vw w' B gd gl gp pages frames F 0 Now St (fun _ => False) ∧ Out w w' (PI B w) ∧ (∃ (I : Wd) (J : Pd) (P : Po) (L : Lg) (S : Dsk), Ps w' B I J P L S Now St ∧ I.d.g = gd ∧ P.base = 128 ∧ P.pages = pages ∧ dirtyL P.ss = []) := by
  obtain ⟨I, J, P, L, S, hp, h1, h2, rfl, h4, h5, h6, h7, h8, h9, h10, h11, h12⟩ := h
  refine (pflush_any hp.wl hp.pq hp.ed hp.el hp.pv.good hp.hB (by omega)).mono ?_
  rintro e w' ⟨p', rfl, hw, hq', ho⟩
  obtain ⟨a, b, c, d, e1, e2, e3, e4⟩ := pv_flushAll hp.pv hp.pq.ok hp.wl.ok hp.fb
  obtain ⟨l1, l2, l3, l4⟩ := flushAll_lg P L S
  have hps : Ps w' B ⟨I.g, I.d.with p', I.dv, I.pv⟩ J (flushAll P L S).1 (flushAll P L S).2.1 (flushAll P L S).2.2.1 Now St := ⟨hw, hq', hp.ed, hp.el, b, by rw [l3, l4, e1]; exact hp.fb, Nat.le_trans hp.hB ho.size⟩
  refine ⟨by rw [a], ⟨_, J, _, _, _, hps, h1, h2, rfl, e1.trans h4, e2.trans h5, e3.trans h6, l1.trans h7, l2.trans h8, l3.trans h9, l4.trans h10, by rw [e4]; exact Nat.zero_le _, fun x hx => by rw [d] at hx; cases hx⟩, pf_pi ho, _, J, _, _, _, hps, h2, e1.trans h4, e2.trans h5, d⟩
/-- What is dirty: numbers that rise, no more than there are frames. -/
theorem vw_dirty (h : Vw w B gd gl gp pages frames F q Now St D) :
    Calls Try.prog 18 #[.pointer (some ⟨gp, 0, none⟩)] w fun e w' => ∃ (v : Value) (l : List Int), e = .returned v ∧ w'.ownsRow w.heap.size 3 1 v l.length (l.map (Value.int .i64)) ∧ l.length ≤ frames ∧ l.length ≤ 256 ∧ l.Pairwise (· < ·) ∧ (∀ x ∈ l, D x) ∧ (∀ x ∈ l, 0 ≤ x ∧ x < 1024) ∧ Below w.heap.size w w' := by
  obtain ⟨I, J, P, L, S, hp, h1, h2, rfl, h4, h5, rfl, h7, h8, h9, h10, h11, h12⟩ := h
  refine (dirty_any hp.pq).mono ?_
  rintro e w' ⟨v, rfl, ho, hb⟩
  have hl : (sortedD P).length ≤ P.ss.length := by rw [sortedD_len]; exact dirtyL_len _
  refine ⟨v, sortedD P, rfl, ho, Nat.le_trans hl hp.pq.ok.len, Nat.le_trans hl hp.pq.few, sortedD_asc (dirtyL_nodup (hp.pv.apart hp.pq.ok)), fun x hx => ?_, fun x hx => ?_, hb⟩
  · refine h12 x ?_
    unfold sortedD at hx
    exact (List.mergeSort_perm _ _).mem_iff.1 hx
  · obtain ⟨s, hs, -, rfl⟩ := sortedD_mem.1 hx
    have h1 := (hp.pv.good s hs).1
    have h2 := hp.pq.ok.p2
    rcases hp.pq.ok.ids s hs with h3 | h3 <;> omega
/-- A map of the law's own is laid in. -/
theorem Vw.map_kept {P : Program} {k : TypeId} {F n : Nat} {f : Lit → Option Value} (h : Vw w B gd gl gp pages frames Fn q Now St D) (hg : w.grownBy w' (some F)) (hm : Mp w P k F n f) : Vw w' B gd gl gp pages frames Fn q Now St D := by
  obtain ⟨I, J, P, L, S, hp, h⟩ := h
  have hb : ∀ j t cs, Bk w j t cs → w'.heap[j]? = w.heap[j]? := fun j t cs hc => hg.block j hc.lt fun e => hm.ne_bk hc (by injection e with e; exact e.symm)
  exact ⟨I, J, P, L, S, ⟨hp.wl.pool fun j _ ⟨t, cs, hc, _⟩ => hb j t cs hc, hp.pq.of_same fun j _ ⟨t, cs, hc, _⟩ => hb j t cs hc, hp.ed, hp.el, hp.pv, hp.fb, Nat.le_trans hp.hB hg.size⟩, h⟩
/-- A volume that has just been made. -/
theorem Vw.new {w3 : World} {I : Wd} {gp N : Nat} (hN : N = 128 + 4 * pages) (hw : Wl w B I (Lg.new 0 128) (.start (blanks N))) (hb : Below w.heap.size w w3) (hq : Pq w3 B ⟨gp, .slice none 0 0, [], I.d.ptr, I.ptr⟩ ⟨128, pages, frames, [], 0⟩) (hB : B ≤ w.heap.size) :
    Vw w3 B I.d.g I.g gp pages frames 54 0 (fun _ => Pg.zero) (fun _ => 0) (fun _ => False) :=
  ⟨I, _, _, _, _, ⟨hw.kept hb, hq, rfl, rfl, Pv.new 128 pages frames N (by omega) _ ⟨rfl, rfl⟩ rfl (by simp [Dsk.start, blanks]), by show 0 + 128 ≤ 128; omega, Nat.le_trans hB hb.size⟩, rfl, rfl, rfl, rfl, rfl, rfl, rfl, rfl, rfl, rfl, Nat.le_refl _, fun x hx => by cases hx⟩
end
end Go.Proofs.Ytgafajbdmegfgaa
