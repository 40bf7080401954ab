/- Is a number on a slice; ids; the first place of a page that may be taken. A heap, plainly: a chain of pages, a cell for each place. Going over a heap's pages: whatever is done at each. -/
import Derived.Test.YtdhfcjplnbnkdaaSpcVol
import Derived.Test.YtdhfcjplnbnkdaaRowI
import Derived.Test.YtdhfcjplnbnkdaaMapI
set_option linter.unusedVariables false
set_option linter.unusedSimpArgs false
namespace Go.Proofs.Ytdhfcjplnbnkdaa
open Go.RowKit Go.Maps

/-- Slices of numbers that lie below: nothing of the call's own turns them. -/
def Ks (w : World) (v : Value) (m : Nat) (f : Nat → Int) : Prop := m ≤ 9223372036854775807 ∧ Row w w.heap.size .i64 v m f
theorem Ks.kept {w w' : World} {v : Value} {m : Nat} {f : Nat → Int} (h : Ks w v m f) (hb : Below w.heap.size w w') : Ks w' v m f := ⟨h.1, (h.2.below hb (Nat.le_refl _)).mono hb.size⟩
def onK (m : Nat) (f : Nat → Int) (x : Int) : Prop := ∃ i, i < m ∧ f i = x
set_option maxRecDepth 100000 in
set_option maxHeartbeats 2000000 in
theorem index_any (v : Value) (m : Nat) (f : Nat → Int) (x : Int) (w : World) (h : Ks w v m f) :
    Calls Try.prog 61 #[v, .int .i64 x] w fun e w' => ((∃ i : Nat, i < m ∧ f i = x ∧ e = .returned (.int .i64 i)) ∨ ((∀ i, i < m → f i ≠ x) ∧ e = .returned (.int .i64 (-1)))) ∧ w' = w := by
  obtain ⟨hm, a, c, rfl, h0, hr⟩ := h
  have HR := Lib.hid hr
  clear h0 hr
  go_enter Try.func61, Try.ntmps61
  go_wp2_with fail
  go_loopw [8] (fun i wr => ∃ j : Nat, j ≤ m ∧ i = .int .i64 j ∧ (∀ q, q < j → f q ≠ x) ∧ w = wr) (fun i _ => m - (intOf i).toNat)
  case atStart => exact ⟨0, Nat.zero_le _, rfl, (fun q hq => absurd hq (Nat.not_lt_zero q)), rfl⟩
  case round =>
    obtain ⟨j, hj, rfl, ha, rfl⟩ := hrel
    have HA := Lib.hid ha
    clear ha
    by_cases hlt : j < m
    · have HLT := Lib.hid hlt
      have hjb : j < 9223372036854775807 := by omega
      obtain ⟨b1, off, rfl, hb1, hra⟩ := HR.out (by omega)
      have r0 := hra j hlt
      clear hra hb1
      by_cases e : f j = x
      · have E := Lib.hid e
        subst e
        go_wp2
        go_ret
        exact ⟨.inl ⟨j, HLT.out, rfl, rfl⟩, rfl⟩
      · have he : (x == f j) = false := by simp; exact fun h => e h.symm
        have E := Lib.hid (show ∀ q, q < j + 1 → f q ≠ x from fun q hq => by
          by_cases e2 : q = j
          · rw [e2]; exact e
          · exact HA.out q (by omega))
        clear e
        go_wp2
        go_roundw
        case rel => exact ⟨j + 1, by have := HLT.out; omega, by go_num, E.out, trivial⟩
        case measure => have := HLT.out; simp [intOf]; omega
    · obtain rfl : j = m := by omega
      clear hlt
      go_wp2
      go_ret
      exact ⟨.inr ⟨HA.out, rfl⟩, rfl⟩
open Classical in
set_option maxRecDepth 100000 in
set_option maxHeartbeats 1000000 in
theorem contains_any (v : Value) (m : Nat) (f : Nat → Int) (x : Int) (w : World) (h : Ks w v m f) :
    Calls Try.prog 51 #[v, .int .i64 x] w fun e w' => e = .returned (.bool (decide (onK m f x))) ∧ w' = w := by
  have CI := Lib.hid (index_any v m f x w h)
  obtain ⟨d, hd⟩ : ∃ d, d = decide (onK m f x) := ⟨_, rfl⟩
  have HD := Lib.hid hd
  rw [← hd]
  clear h hd
  go_enter Try.func51, Try.ntmps51
  go_wp2_with fail
  refine CI.out.mono ?_
  rintro e w1 ⟨⟨i, hi, hx, rfl⟩ | ⟨hn, rfl⟩, rfl⟩
  · obtain rfl : d = true := by rw [HD.out]; exact decide_eq_true ⟨i, hi, hx⟩
    have h0 : (0 : Int) ≤ (i : Int) := by omega
    go_wp2
    go_ret
    exact ⟨rfl, rfl⟩
  · obtain rfl : d = false := by rw [HD.out]; exact decide_eq_false fun ⟨i, hi, hx⟩ => hn i hi hx
    go_wp2
    go_ret
    exact ⟨rfl, rfl⟩
theorem id_any (p s : Nat) (hp : p < 100000) (hs : s < 100000) (w : World) : Calls Try.prog 23 #[.int .i64 p, .int .i64 s] w fun e w' => e = .returned (.int .i64 ((p : Int) * 8 + (s : Int))) ∧ w' = w := by
  go_enter Try.func23, Try.ntmps23
  go_wp2
  go_ret
  exact ⟨rfl, rfl⟩
/-- May a cell be taken? -/
def free1 (p : Pg) (id m : Nat) (f : Nat → Int) (i : Nat) : Prop := (p.c i).st ≠ 1 ∧ ¬ onK m f ((id : Int) * 8 + (i : Int))
def VacPost (w : World) (p : Pg) (id m : Nat) (f : Nat → Int) (e : Ending) (w' : World) : Prop :=
  ((∀ i, i < 6 → ¬ free1 p id m f i) ∧ e = .returned (.tuple #[.int .i64 0, .bool false]) ∧ Below w.heap.size w w') ∨
  (∃ i : Nat, i < 6 ∧ free1 p id m f i ∧ (∀ q, q < i → ¬ free1 p id m f q) ∧ e = .returned (.tuple #[.int .i64 i, .bool true]) ∧ Below w.heap.size w w')
open Classical in
set_option maxRecDepth 100000 in
set_option maxHeartbeats 4000000 in
theorem vacant_any (p : Pg) (id : Nat) (hid : id < 1024) (v : Value) (m : Nat) (f : Nat → Int) (w : World) (h : Ks w v m f) :
    Calls Try.prog 35 #[.int .i64 id, .agg p.cs, v] w (VacPost w p id m f) := by
  have K := Lib.hid (Bk.new w 40 p.cs)
  have B0 := Lib.hid ((Below.refl w.heap.size w).alloc (Nat.le_refl _) (.cells p.cs 40))
  have CC := Lib.hid (fun (w' : World) (hb : Below w.heap.size w w') (x : Int) => contains_any v m f x w' (h.kept hb))
  have CI := Lib.hid (fun (i : Nat) (hi : i < 6) (w' : World) => id_any id i (by omega) (by omega) w')
  have NO := Lib.hid (fun (w' : World) (ha : ∀ i, i < 6 → ¬ free1 p id m f i) (hb : Below w.heap.size w w') => show VacPost w p id m f (.returned (.tuple #[.int .i64 0, .bool false])) w' from .inl ⟨ha, rfl, hb⟩)
  have YES := Lib.hid (fun (w' : World) (i : Nat) (h1 : i < 6) (h2 : free1 p id m f i) (h3 : ∀ q, q < i → ¬ free1 p id m f q) (hb : Below w.heap.size w w') => show VacPost w p id m f (.returned (.tuple #[.int .i64 i, .bool true])) w' from .inr ⟨i, h1, h2, h3, rfl, hb⟩)
  clear h
  go_enter Try.func35, Try.ntmps35
  go_upto_region 1 with fail
  generalize w.alloc (.cells p.cs 40) = w0 at *
  obtain ⟨G, hG⟩ : ∃ G, G = w.heap.size := ⟨_, rfl⟩
  rw [← hG] at K ⊢
  clear hG
  go_wp2_with (refine load_cells rfl _ rfl G p rfl K.out ?_)
  go_loopw [12] (fun i wr => ∃ j : Nat, j ≤ 6 ∧ i = .int .i64 j ∧ (∀ q, q < j → ¬ free1 p id m f q) ∧ Below w.heap.size w wr) (fun i _ => 6 - (intOf i).toNat)
  case atStart => exact ⟨0, Nat.zero_le _, rfl, (fun q hq => absurd hq (Nat.not_lt_zero q)), B0.out⟩
  case round =>
    obtain ⟨j, hj, rfl, ha, hb⟩ := hrel
    have A1 := Lib.hid ha; have B1 := Lib.hid hb
    clear ha hb B0 K
    by_cases hlt : j < 6
    · have HLT := Lib.hid hlt
      have B2 := Lib.hid (fun o => B1.out.alloc B1.out.size o)
      obtain ⟨cj, hcj⟩ : ∃ cj, cj = p.c j := ⟨_, rfl⟩
      have HC := Lib.hid hcj
      clear hcj
      by_cases hs : cj.st = 1
      · have S := Lib.hid (show ∀ q, q < j + 1 → ¬ free1 p id m f q from fun q hq => by
          by_cases e : q = j
          · rw [e]; exact fun hf => hf.1 (by rw [← HC.out]; exact hs)
          · exact A1.out q (by omega))
        have hsb : (cj.st != 1) = false := by simp [hs]
        go_wp2_with (refine index_cells rfl _ _ rfl p.c j HLT.out rfl rfl ?_; rw [← HC.out])
        go_roundw
        case rel => exact ⟨j + 1, by have := HLT.out; omega, by go_num, S.out, B2.out _⟩
        case measure => have := HLT.out; simp [intOf]; omega
      · have hsb : (cj.st != 1) = true := by simp [hs]
        have NS := Lib.hid hs
        clear hs
        go_wp2_with (refine index_cells rfl _ _ rfl p.c j HLT.out rfl rfl ?_; rw [← HC.out])
        refine (CI.out j HLT.out _).mono ?_
        rintro e w2 ⟨rfl, rfl⟩
        go_wp2_with fail
        refine (CC.out _ (B2.out _) _).mono ?_
        rintro e w3 ⟨rfl, rfl⟩
        by_cases hk : onK m f ((id : Int) * 8 + (j : Int))
        · rw [decide_eq_true hk]
          have S := Lib.hid (show ∀ q, q < j + 1 → ¬ free1 p id m f q from fun q hq => by
            by_cases e : q = j
            · rw [e]; exact fun hf => hf.2 hk
            · exact A1.out q (by omega))
          clear hk
          go_wp2
          go_roundw
          case rel => exact ⟨j + 1, by have := HLT.out; omega, by go_num, S.out, B2.out _⟩
          case measure => have := HLT.out; simp [intOf]; omega
        · rw [decide_eq_false hk]
          have S := Lib.hid (show free1 p id m f j from ⟨by rw [← HC.out]; exact NS.out, hk⟩)
          clear hk
          go_wp2
          refine bodyPost_ret (v := .tuple #[.int .i64 j, .bool true]) (by simp [results, Try.results35, go_sem]) rfl ?_
          exact YES.out _ j HLT.out S.out A1.out (B2.out _)
    · have hj6 : j = 6 := by omega
      have h6 : ¬ (j : Int) < 6 := by omega
      have A6 := Lib.hid (show ∀ i, i < 6 → ¬ free1 p id m f i from fun i hi => A1.out i (by omega))
      clear hlt hj hj6
      go_wp2
      refine bodyPost_ret (v := .tuple #[.int .i64 0, .bool false]) (by simp [results, Try.results35, go_sem]) rfl ?_
      exact NO.out _ A6.out B1.out
end Go.Proofs.Ytdhfcjplnbnkdaa
namespace Go.Proofs.Ytdhfcjplnbnkdaa
open Go.RowKit Go.Maps

def blank : Ce := ⟨0, ⟨#[]⟩⟩
theorem blank_ok : blank.ok := .inl ⟨rfl, rfl⟩
/-- Which pages are the heap's (store 1's), in their order, and what each place holds. -/
structure Hp (pg : Nat → Pg) (n : Nat) (ow : Nat → Option Int) (ch : List Nat) (L : Nat → Nat → Ce) : Prop where
  ne : 0 < ch.length
  nd : ch.Nodup
  pgs : ∀ p, p ∈ ch → 2 ≤ p ∧ p < n ∧ (pg p).k = 3 ∧ (pg p).ok ∧ ow p = some 1
  nx : ∀ i, i < ch.length → (pg (ch.getD i 0)).n = ((ch.getD (i + 1) 0 : Nat) : Int)
  cell : ∀ p, p ∈ ch → ∀ i, i < 6 → (pg p).c i = L p i
  out : ∀ p, p ∉ ch → ∀ i, L p i = blank
  only : ∀ i, i < n → (ow i).isSome = true → i < 2 ∨ i ∈ ch
structure Hc (pg : Nat → Pg) (n : Nat) (ch : List Nat) (L : Nat → Nat → Ce) : Prop where
  ex : ∃ st kd rt ow, Vol pg n st kd rt ow ∧ Hp pg n ow ch L ∧ st 0 = 1 ∧ kd 0 = 1 ∧ rt 0 = ch.getD 0 0
theorem getD_mem {ch : List Nat} {i : Nat} (h : i < ch.length) : ch.getD i 0 ∈ ch := by
  rw [List.getD_eq_getElem?_getD, List.getElem?_eq_getElem h]
  exact List.getElem_mem h
theorem mem_getD {ch : List Nat} {p : Nat} (h : p ∈ ch) : ∃ i, i < ch.length ∧ ch.getD i 0 = p := by
  obtain ⟨i, hi, e⟩ := List.getElem_of_mem h
  exact ⟨i, hi, by rw [List.getD_eq_getElem?_getD, List.getElem?_eq_getElem hi]; exact e⟩
theorem getD_out {ch : List Nat} {i : Nat} (h : ch.length ≤ i) : ch.getD i 0 = 0 := by
  rw [List.getD_eq_getElem?_getD, List.getElem?_eq_none h]; rfl
theorem nodup_lt (l : List Nat) (n : Nat) (hd : l.Nodup) (h : ∀ x ∈ l, x < n) : l.length ≤ n := by
  have := nodup_len_le l (List.range n) hd (fun x hx => List.mem_range.2 (h x hx))
  rwa [List.length_range] at this
theorem all_owned {ch : List Nat} {n : Nat} (h : ∀ i, i < n → i < 2 ∨ i ∈ ch) : n ≤ 2 + ch.length := by
  have := nodup_len_le (List.range n) (0 :: 1 :: ch) List.nodup_range (fun x hx => by
    rcases h x (List.mem_range.1 hx) with h2 | h2
    · rcases (show x = 0 ∨ x = 1 by omega) with e | e <;> subst e <;> simp
    · exact List.mem_cons_of_mem _ (List.mem_cons_of_mem _ h2))
  simp only [List.length_range, List.length_cons] at this
  omega
section
variable {pg : Nat → Pg} {n : Nat} {ch : List Nat} {L : Nat → Nat → Ce}
theorem Hc.len (h : Hc pg n ch L) : 0 < ch.length ∧ ch.length ≤ n ∧ n ≤ 1024 ∧ 4 ≤ n := by
  obtain ⟨st, kd, rt, ow, hv, hp, _⟩ := h.ex
  exact ⟨hp.ne, nodup_lt _ _ hp.nd fun p hpm => (hp.pgs p hpm).2.1, hv.m.hi, hv.m.lo⟩
/-- What a page of the chain is. -/
theorem Hc.page (h : Hc pg n ch L) (i : Nat) (hi : i < ch.length) : 2 ≤ ch.getD i 0 ∧ ch.getD i 0 < n ∧ (pg (ch.getD i 0)).k = 3 ∧ (pg (ch.getD i 0)).s = 1 ∧ (pg (ch.getD i 0)).n = ((ch.getD (i + 1) 0 : Nat) : Int) ∧ (pg (ch.getD i 0)).ok := by
  obtain ⟨st, kd, rt, ow, hv, hp, _⟩ := h.ex
  have hm := hp.pgs _ (getD_mem hi)
  exact ⟨hm.1, hm.2.1, hm.2.2.1, hv.s _ hm.1 hm.2.1 1 hm.2.2.2.2, hp.nx i hi, hm.2.2.2.1⟩
theorem Hc.cell (h : Hc pg n ch L) {p : Nat} (hp : p ∈ ch) {i : Nat} (hi : i < 6) : (pg p).c i = L p i := by
  obtain ⟨st, kd, rt, ow, hv, hpp, _⟩ := h.ex
  exact hpp.cell p hp i hi
theorem Hc.out (h : Hc pg n ch L) {p : Nat} (hp : p ∉ ch) (i : Nat) : L p i = blank := by
  obtain ⟨st, kd, rt, ow, hv, hpp, _⟩ := h.ex
  exact hpp.out p hp i
theorem Hc.nd (h : Hc pg n ch L) : ch.Nodup := by
  obtain ⟨st, kd, rt, ow, hv, hpp, _⟩ := h.ex
  exact hpp.nd
theorem Hc.mem (h : Hc pg n ch L) {p : Nat} (hp : p ∈ ch) : 2 ≤ p ∧ p < n := by
  obtain ⟨st, kd, rt, ow, hv, hpp, _⟩ := h.ex
  exact ⟨(hpp.pgs p hp).1, (hpp.pgs p hp).2.1⟩
theorem Hc.inj (h : Hc pg n ch L) {i j : Nat} (hi : i < ch.length) (hj : j < ch.length) (e : ch.getD i 0 = ch.getD j 0) : i = j := by
  rw [List.getD_eq_getElem?_getD, List.getD_eq_getElem?_getD, List.getElem?_eq_getElem hi, List.getElem?_eq_getElem hj] at e
  exact (List.getElem_inj h.nd).1 e
theorem find_heap {w : World} {B g b gs r N M : Nat} {und : Nat → Pg} (hs : SV w B g b gs r N M und pg) (h : Hc pg n ch L) :
    Calls Try.prog 50 #[.pointer (some ⟨g, 0, none⟩), .int .i64 1] w fun e w' => e = .returned (.tuple #[.int .i64 1, .int .i64 (ch.getD 0 0 : Nat), .int .i64 1, .int .i64 0]) ∧ Below w.heap.size w w' := by
  obtain ⟨st, kd, rt, ow, hv, hp, h1, h2, h3⟩ := h.ex
  refine (find_vol hs hv 1).mono ?_
  rintro e w' (⟨hx, -, -⟩ | ⟨-, rfl, hb⟩)
  · exact absurd ⟨by decide, by decide, by rw [show ((1 : Int) - 1).toNat = 0 from rfl, h1]; decide⟩ hx
  · rw [show ((1 : Int) - 1).toNat = 0 from rfl, h1, h2, h3]
    exact ⟨rfl, hb⟩
/-- One cell is another one. -/
def putL (L : Nat → Nat → Ce) (p i : Nat) (c : Ce) : Nat → Nat → Ce := fun q j => if q = p ∧ j = i then c else L q j
theorem putL_at (L : Nat → Nat → Ce) (p i : Nat) (c : Ce) : putL L p i c p i = c := if_pos ⟨rfl, rfl⟩
theorem putL_ne (L : Nat → Nat → Ce) {p i q j : Nat} (c : Ce) (h : ¬ (q = p ∧ j = i)) : putL L p i c q j = L q j := if_neg h
theorem Vol.relay {st : Nat → Int} {kd rt : Nat → Nat} {ow : Nat → Option Int} (h : Vol pg n st kd rt ow) (id : Nat) (h2 : 2 ≤ id) (p : Pg) (hp : ow id = some p.s) : Vol (upd pg id p) n st kd rt ow := by
  have := h.lay id h2 p
  rw [hp, if_pos (show (some p.s).isSome = true from rfl)] at this
  have e : put ow id (some p.s) = ow := by
    funext i
    unfold put
    by_cases e : i = id
    · rw [if_pos e, e, hp]
    · rw [if_neg e]
  rwa [e] at this
theorem putC_ok2 {p : Pg} (h : p.ok) (j : Nat) (c : Ce) (hc : c.ok) : (putC p j c).ok := by
  refine ⟨h.1, fun i hi => ?_⟩
  show (if i = j then c else p.c i).ok
  by_cases e : i = j
  · rw [if_pos e]; exact hc
  · rw [if_neg e]; exact h.2 i hi
theorem Hc.lay (h : Hc pg n ch L) {p : Nat} (hp : p ∈ ch) {i : Nat} (hi : i < 6) (c : Ce) (hc : c.ok) : Hc (upd pg p (putC (pg p) i c)) n ch (putL L p i c) := by
  obtain ⟨st, kd, rt, ow, hv, hpp, h1, h2, h3⟩ := h.ex
  have hm := hpp.pgs p hp
  have hs := hv.s p hm.1 hm.2.1 1 hm.2.2.2.2
  refine ⟨st, kd, rt, ow, hv.relay p hm.1 _ (by rw [hm.2.2.2.2]; show some (1 : Int) = some (pg p).s; rw [hs]), ⟨hpp.ne, hpp.nd, fun q hq => ?_, fun j hj => ?_, fun q hq j hj => ?_, fun q hq j => ?_, hpp.only⟩, h1, h2, h3⟩
  · have hq2 := hpp.pgs q hq
    unfold upd
    by_cases e : q = p
    · subst e
      rw [if_pos rfl]
      exact ⟨hq2.1, hq2.2.1, hq2.2.2.1, putC_ok2 hq2.2.2.2.1 _ _ hc, hq2.2.2.2.2⟩
    · rw [if_neg e]; exact hq2
  · have := hpp.nx j hj
    unfold upd
    by_cases e : ch.getD j 0 = p
    · rw [if_pos e]
      show (pg p).n = _
      rw [← e]; exact this
    · rw [if_neg e]; exact this
  · unfold upd
    by_cases e : q = p
    · subst e
      rw [if_pos rfl]
      show (if j = i then c else (pg q).c j) = _
      by_cases e2 : j = i
      · rw [if_pos e2, e2, putL_at]
      · rw [if_neg e2, putL_ne _ _ (fun x => e2 x.2)]; exact hpp.cell q hq j hj
    · rw [if_neg e, putL_ne _ _ (fun x => e x.1)]; exact hpp.cell q hq j hj
  · rw [putL_ne _ _ (fun x => hq (by rw [x.1]; exact hp))]; exact hpp.out q hq j
/-- A page more behind the last one. -/
def nextOf (p : Pg) (x : Int) : Pg := ⟨p.k, p.l, p.s, x, p.c⟩
def pgK3 : Pg := ⟨3, 0, 1, 0, fun _ => blank⟩
theorem pgK3_ok : pgK3.ok := ⟨by unfold Pg.head pgK3; dsimp only; omega, fun i _ => blank_ok⟩
theorem Hc.grow (h : Hc pg n ch L) {id : Nat} {st : Nat → Int} {kd rt : Nat → Nat} {ow : Nat → Option Int} {x : Int} (hv0 : Vol pg n st kd rt ow) (hp0 : Hp pg n ow ch L) (h1 : st 0 = 1) (h2 : kd 0 = 1) (h3 : rt 0 = ch.getD 0 0)
    (i2 : 2 ≤ id) (hid : id < n) (ho : ow id = none) {pg2 : Nat → Pg} (hv : Vol pg2 n st kd rt (put ow id (some x))) (e : ∀ i, 2 ≤ i → pg2 i = pg i) :
    Hc (upd (upd pg2 (ch.getD (ch.length - 1) 0) (nextOf (pg (ch.getD (ch.length - 1) 0)) id)) id pgK3) n (ch ++ [id]) L := by
  have hne := hp0.ne
  have hl : ch.length - 1 < ch.length := by omega
  have hlm := getD_mem hl
  obtain ⟨la, hla⟩ : ∃ la, la = ch.getD (ch.length - 1) 0 := ⟨_, rfl⟩
  rw [← hla] at hlm ⊢
  have hm := hp0.pgs la hlm
  have hnot : id ∉ ch := fun hh => by have := (hp0.pgs id hh).2.2.2.2; rw [ho] at this; cases this
  have hil : id ≠ la := fun e => hnot (e ▸ hlm)
  have hs := hv0.s la hm.1 hm.2.1 1 hm.2.2.2.2
  have v1 := hv.relay la hm.1 (nextOf (pg la) id) (by rw [put_ne _ _ (Ne.symm hil), hm.2.2.2.2]; show some (1 : Int) = some (pg la).s; rw [hs])
  have v2 := v1.lay id i2 pgK3
  rw [put_at, if_pos (show (some x : Option Int).isSome = true from rfl)] at v2
  have eo : put (put ow id (some x)) id (some pgK3.s) = put ow id (some 1) := by
    funext i
    unfold put
    split <;> rfl
  rw [eo] at v2
  have g1 : ∀ i, i < ch.length → (ch ++ [id]).getD i 0 = ch.getD i 0 := fun i hi => by
    rw [List.getD_eq_getElem?_getD, List.getElem?_append_left hi, List.getD_eq_getElem?_getD]
  have g2 : (ch ++ [id]).getD ch.length 0 = id := by
    rw [List.getD_eq_getElem?_getD, List.getElem?_append_right (Nat.le_refl _), Nat.sub_self]; rfl
  have g3 : (ch ++ [id]).getD (ch.length + 1) 0 = 0 := getD_out (by simp)
  refine ⟨st, kd, rt, _, v2, ⟨by simp, ?_, fun q hq => ?_, fun j hj => ?_, fun q hq j hj => ?_, fun q hq j => ?_, fun j hj ho2 => ?_⟩, h1, h2, ?_⟩
  · rw [List.nodup_append]
    exact ⟨hp0.nd, by simp, fun a ha b hb => by simp at hb; subst hb; exact fun e => hnot (e ▸ ha)⟩
  · rcases List.mem_append.1 hq with hq | hq
    · have hq2 := hp0.pgs q hq
      have hqi : q ≠ id := fun e => hnot (e ▸ hq)
      unfold upd
      rw [if_neg hqi, put_ne _ _ hqi]
      by_cases e2 : q = la
      · subst e2
        rw [if_pos rfl]
        refine ⟨hq2.1, hq2.2.1, hq2.2.2.1, ⟨?_, hq2.2.2.2.1.2⟩, hq2.2.2.2.2⟩
        have ho2 := hq2.2.2.2.1.1
        have := hv0.m.hi
        unfold Pg.head nextOf at *
        dsimp only
        omega
      · rw [if_neg e2, e q hq2.1]; exact hq2
    · have : q = id := by simpa using hq
      subst this
      unfold upd
      rw [if_pos rfl, put_at]
      exact ⟨i2, hid, rfl, pgK3_ok, rfl⟩
  · rw [List.length_append] at hj
    change j < ch.length + 1 at hj
    by_cases hjl : j < ch.length
    · rw [g1 j hjl]
      have hq := getD_mem hjl
      have hqi : ch.getD j 0 ≠ id := fun e => hnot (e ▸ hq)
      unfold upd
      rw [if_neg hqi]
      by_cases e2 : ch.getD j 0 = la
      · rw [if_pos e2]
        have hj2 : j = ch.length - 1 := by
          rw [hla, List.getD_eq_getElem?_getD, List.getD_eq_getElem?_getD, List.getElem?_eq_getElem hjl, List.getElem?_eq_getElem hl] at e2
          exact (List.getElem_inj hp0.nd).1 e2
        rw [show j + 1 = ch.length by omega, g2]; rfl
      · rw [if_neg e2, e _ (hp0.pgs _ hq).1]
        have hj2 : j ≠ ch.length - 1 := fun e3 => e2 (by rw [e3, hla])
        rw [g1 (j + 1) (by omega)]
        exact hp0.nx j hjl
    · obtain rfl : j = ch.length := by omega
      rw [g2, g3]
      unfold upd
      rw [if_pos rfl]; rfl
  · rcases List.mem_append.1 hq with hq | hq
    · have hqi : q ≠ id := fun e => hnot (e ▸ hq)
      unfold upd
      rw [if_neg hqi]
      by_cases e2 : q = la
      · subst e2
        rw [if_pos rfl]
        exact hp0.cell q hq j hj
      · rw [if_neg e2, e q (hp0.pgs q hq).1]; exact hp0.cell q hq j hj
    · have : q = id := by simpa using hq
      subst this
      unfold upd
      rw [if_pos rfl, hp0.out q hnot j]; rfl
  · exact hp0.out q (fun hh => hq (List.mem_append_left _ hh)) j
  · by_cases e3 : j = id
    · exact .inr (by rw [e3]; simp)
    · rw [put_ne _ _ e3] at ho2
      rcases hp0.only j hj ho2 with h4 | h4
      · exact .inl h4
      · exact .inr (List.mem_append_left _ h4)
  · rw [g1 0 hne]; exact h3
/-- The record at an id. -/
def rcP (L : Nat → Nat → Ce) (id : Int) : Prop := 0 ≤ id ∧ id.toNat % 8 < 6 ∧ (L (id.toNat / 8) (id.toNat % 8)).st = 1
theorem rcP_nat (L : Nat → Nat → Ce) (p i : Nat) (hi : i < 6) : rcP L ((p : Int) * 8 + (i : Int)) ↔ (L p i).st = 1 := by
  unfold rcP
  rw [show ((p : Int) * 8 + (i : Int)).toNat = p * 8 + i by omega, show (p * 8 + i) / 8 = p by omega, show (p * 8 + i) % 8 = i by omega]
  exact ⟨fun h => h.2.2, fun h => ⟨by omega, hi, h⟩⟩
theorem rcP_ex {L : Nat → Nat → Ce} {id : Int} (h : rcP L id) : ∃ p i : Nat, i < 6 ∧ id = (p : Int) * 8 + (i : Int) ∧ (L p i).st = 1 :=
  ⟨id.toNat / 8, id.toNat % 8, h.2.1, by have := h.1; omega, h.2.2⟩
theorem Hc.rc_mem (h : Hc pg n ch L) {p i : Nat} (hs : (L p i).st = 1) : p ∈ ch := by
  by_cases hp : p ∈ ch
  · exact hp
  · rw [h.out hp i] at hs; cases hs
end
end Go.Proofs.Ytdhfcjplnbnkdaa
namespace Go.Proofs.Ytdhfcjplnbnkdaa
open Go.RowKit Go.Maps

set_option maxRecDepth 100000 in
set_option maxHeartbeats 4000000 in
theorem walk_any {w : World} {B g b gs r N M n : Nat} {und pg : Nat → Pg} {ch : List Nat} {L : Nat → Nat → Ce} (hc : Hc pg n ch L) (fk : Nat) (cap : Array Value)
    (eg : ∀ args w, (callFunc fk args).run Try.prog w = .ok (.enter fk args) w)
    (V : Nat → World → Prop) (D : Nat → World → Prop) (hn : n ≤ N)
    (hsv : ∀ i w', V i w' → SV w' B g b gs r N M und pg)
    (hk : ∀ i w' w'', V i w' → Below w'.heap.size w' w'' → V i w'')
    (hv : ∀ (i : Nat) (w' : World), i < ch.length → V i w' → Calls Try.prog fk (#[.int .i64 (ch.getD i 0 : Nat), .agg (pg (ch.getD i 0)).cs] ++ cap) w' fun e w'' => ((e = .returned (.bool false) ∧ V (i + 1) w'') ∨ (e = .returned (.bool true) ∧ D i w'')) ∧ (∀ q cs, w.heap.size ≤ q → Bk w' q 40 cs → Bk w'' q 40 cs))
    (hsz : ∀ i w', V i w' → w.heap.size ≤ w'.heap.size) (h0 : V 0 w) :
    Calls Try.prog 33 #[.pointer (some ⟨g, 0, none⟩), .int .i64 1, .func (.func fk) #[] cap] w fun e w' => e = .returned (.int .i64 0) ∧ (V ch.length w' ∨ ∃ i, i < ch.length ∧ D i w') := by
  have HC := Lib.hid hc; have HSV := Lib.hid hsv; have HK := Lib.hid hk; have HV := Lib.hid hv; have V0 := Lib.hid h0; have SZ := Lib.hid hsz
  have LN := Lib.hid hc.len
  have CF := Lib.hid (fun w' i (h : V i w') => find_heap (hsv i w' h) hc)
  have CG := Lib.hid (fun w' i (h : V i w') (q : Nat) (hq : q < N) => sv_get (hsv i w' h) q hq)
  have HN := Lib.hid hn
  clear hc hsv hk hv h0 hn hsz
  go_enter Try.func33, Try.ntmps33
  go_wp2_with fail
  refine (CF.out w 0 V0.out).mono ?_
  rintro e w1 ⟨rfl, hb⟩
  have V1 := Lib.hid (HK.out 0 _ _ V0.out hb)
  clear hb V0 CF
  as_aux_lemma =>
    go_wp2_with fail
    go_loopw [8, 30] (fun c i wr => ∃ j : Nat, j < ch.length ∧ i = .int .i64 j ∧ c = .int .i64 (ch.getD j 0 : Nat) ∧ V j wr) (fun _ i _ => 1024 - (intOf i).toNat)
    case atStart => exact ⟨0, LN.out.1, rfl, rfl, V1.out⟩
    case round =>
      obtain ⟨j, hj, rfl, rfl, hvj⟩ := hrel
      have VJ := Lib.hid hvj
      clear hvj V1
      have PG := HC.out.page j hj
      have j1024 : (j : Int) < 1024 := by have := LN.out; omega
      obtain ⟨p, hp⟩ : ∃ p, p = pg (ch.getD j 0) := ⟨_, rfl⟩
      obtain ⟨c, hcj⟩ : ∃ c, c = ch.getD j 0 := ⟨_, rfl⟩
      have CG1 := Lib.hid (CG.out wr j VJ.out (ch.getD j 0) (by have := HN.out; omega))
      have HV1 := Lib.hid (fun w' (h : V j w') => HV.out j w' hj h)
      rw [← hp, ← hcj] at PG
      rw [← hcj] at hp
      rw [← hcj, ← hp] at CG1 HV1
      have PK := Lib.hid PG
      have HJ := Lib.hid hj
      have HCJ := Lib.hid hcj
      rw [← hcj]
      have HP := Lib.hid hp
      clear CG HV PG hj hcj hp
      as_aux_lemma =>
        go_wp2_with fail
        refine CG1.out.mono ?_
        rintro e w2 ⟨rfl, hb⟩
        have hbb := hb.alloc hb.size (.cells p.cs 40)
        have V2 := Lib.hid (HK.out j _ _ VJ.out hbb)
        have K2 := Lib.hid (Bk.new w2 40 p.cs)
        obtain ⟨G, hG⟩ : ∃ G, G = w2.heap.size := ⟨_, rfl⟩
        rw [← hG] at K2
        have GN := Lib.hid (show w.heap.size ≤ G by rw [hG]; exact SZ.out j _ (HK.out j _ _ VJ.out hb))
        have c0 : (w2.alloc (.cells p.cs 40)).cell? ⟨G, 0, none⟩ = some (.int .i64 3) := by rw [K2.out.cell]; show some (Value.int .i64 p.k) = _; rw [PK.out.2.2.1]
        have c2 : (w2.alloc (.cells p.cs 40)).cell? ⟨G, 2, none⟩ = some (.int .i64 1) := by rw [K2.out.cell]; show some (Value.int .i64 p.s) = _; rw [PK.out.2.2.2.1]
        clear hb hbb CG1 VJ
        dsimp only
        go_upto_region 9 with (refine store_page_new rfl _ _ rfl p rfl rfl ?_; rw [← hG]; clear hG; generalize w2.alloc (.cells p.cs 40) = w3 at *)
        go_wp2_with (refine load_page rfl _ rfl G p rfl K2.out ?_)
        refine (HV1.out w3 V2.out).mono ?_
        rintro e w4 ⟨⟨rfl, hv⟩ | ⟨rfl, hd⟩, hpg⟩
        · have V4 := Lib.hid hv
          have K4 := Lib.hid (hpg G _ GN.out K2.out)
          have c3 : w4.cell? ⟨G, 3, none⟩ = some (.int .i64 (ch.getD (j + 1) 0 : Nat)) := by rw [K4.out.cell]; show some (Value.int .i64 p.n) = _; rw [PK.out.2.2.2.2.1]
          clear hv hpg V2 K2 c0 c2 HV1
          by_cases hl : j + 1 < ch.length
          · have HL := Lib.hid hl
            have P2 := HC.out.page (j + 1) hl
            obtain ⟨nx, hnx⟩ : ∃ nx, nx = ch.getD (j + 1) 0 := ⟨_, rfl⟩
            rw [← hnx] at c3 P2
            have n0 : ¬ nx = 0 := by omega
            have n1 : ((nx : Int) == 0) = false := by simp; omega
            have NX := Lib.hid hnx
            clear hl P2 hnx
            go_wp2
            go_roundw
            case rel => exact ⟨j + 1, HL.out, by go_num, by rw [← NX.out], V4.out⟩
            case measure => have := HL.out; have := LN.out; simp [intOf]; omega
          · rw [getD_out (by omega)] at c3
            have hj1 : j + 1 = ch.length := by have := HJ.out; omega
            rw [hj1] at V4
            clear hl
            rw [show ((0 : Nat) : Int) = 0 from rfl] at c3
            go_wp2
            go_ret
            exact ⟨rfl, .inl V4.out⟩
        · have D4 := Lib.hid hd
          clear hd hpg V2 K2 c0 c2 HV1
          go_wp2
          go_ret
          exact ⟨rfl, .inr ⟨j, HJ.out, D4.out⟩⟩
end Go.Proofs.Ytdhfcjplnbnkdaa
