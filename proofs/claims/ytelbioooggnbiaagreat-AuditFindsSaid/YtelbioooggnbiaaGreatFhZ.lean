/- Is a number on a slice; ids; the first place of a page that may be taken. A heap, plainly: a chain of pages, a cell for each place. Going over a heap's pages: whatever is done at each. A record sought: the visitor, the walk, seek. Laws for what the heap's functions load, store, build and hand back: cells, undos, pages. Regions that draw their order and store whole values: one lemma an operation. seek. Read; a cell of a page is another one. Update, Delete. Delete. Restore. A page more; the visitor of Insert. The visitor of Insert. Insert. A heap's calls at a store that is not there, is none, or is a ghost. -/
import Derived.Test.YtelbioooggnbiaaGreatSpcVol
import Derived.Test.YtelbioooggnbiaaGreatMemX
import Derived.Test.YtelbioooggnbiaaGreatRowI
import Derived.Test.YtelbioooggnbiaaGreatMap
import Derived.BigQuiet
import Derived.Test.YtelbioooggnbiaaGreatOwn
import Derived.Laws.ResultCell
import Derived.OrdersHeld
import Derived.Deep.RegionLaw
import Derived.StillTail
import Derived.StillTailTactics
set_option linter.unusedVariables false
set_option linter.unusedSectionVars false
set_option linter.unusedSimpArgs false
namespace Go.Proofs.YtelbioooggnbiaaGreat
open Go.RowKit Go.Maps

/-- Slices of numbers that lie below: nothing of the call's own turns them. -/
def Ks (w : World) (v : Value) (m : Nat) (f : Nat → Int) : Prop := m ≤ 9223372036854775807 ∧ Row w w.heap.size .i64 v m f
theorem Ks.kept {w w' : World} {v : Value} {m : Nat} {f : Nat → Int} (h : Ks w v m f) (hb : Below w.heap.size w w') : Ks w' v m f := ⟨h.1, (h.2.below hb (Nat.le_refl _)).mono hb.size⟩
def onK (m : Nat) (f : Nat → Int) (x : Int) : Prop := ∃ i, i < m ∧ f i = x
set_option maxRecDepth 100000 in
set_option maxHeartbeats 2000000 in
theorem index_any (v : Value) (m : Nat) (f : Nat → Int) (x : Int) (w : World) (h : Ks w v m f) :
    Calls Tryz.prog 104 #[v, .int .i64 x] w fun e w' => ((∃ i : Nat, i < m ∧ f i = x ∧ e = .returned (.int .i64 i)) ∨ ((∀ i, i < m → f i ≠ x) ∧ e = .returned (.int .i64 (-1)))) ∧ w' = w := by
  obtain ⟨hm, a, c, rfl, h0, hr⟩ := h
  have HR := Lib.hid hr
  clear h0 hr
  go_enter Tryz.func104, Tryz.ntmps104
  go_wp2_with fail
  go_loopw [8] (fun i wr => ∃ j : Nat, j ≤ m ∧ i = .int .i64 j ∧ (∀ q, q < j → f q ≠ x) ∧ w = wr) (fun i _ => m - (intOf i).toNat)
  case atStart => exact ⟨0, Nat.zero_le _, rfl, (fun q hq => absurd hq (Nat.not_lt_zero q)), rfl⟩
  case round =>
    obtain ⟨j, hj, rfl, ha, rfl⟩ := hrel
    have HA := Lib.hid ha
    clear ha
    by_cases hlt : j < m
    · have HLT := Lib.hid hlt
      have hjb : j < 9223372036854775807 := by omega
      obtain ⟨b1, off, rfl, hb1, hra⟩ := HR.out (by omega)
      have r0 := hra j hlt
      clear hra hb1
      by_cases e : f j = x
      · have E := Lib.hid e
        subst e
        go_wp2
        go_ret
        exact ⟨.inl ⟨j, HLT.out, rfl, rfl⟩, rfl⟩
      · have he : (x == f j) = false := by simp; exact fun h => e h.symm
        have E := Lib.hid (show ∀ q, q < j + 1 → f q ≠ x from fun q hq => by
          by_cases e2 : q = j
          · rw [e2]; exact e
          · exact HA.out q (by omega))
        clear e
        go_wp2
        go_roundw
        case rel => exact ⟨j + 1, by have := HLT.out; omega, by go_num, E.out, trivial⟩
        case measure => have := HLT.out; simp [intOf]; omega
    · obtain rfl : j = m := by omega
      clear hlt
      go_wp2
      go_ret
      exact ⟨.inr ⟨HA.out, rfl⟩, rfl⟩
open Classical in
set_option maxRecDepth 100000 in
set_option maxHeartbeats 1000000 in
theorem contains_any (v : Value) (m : Nat) (f : Nat → Int) (x : Int) (w : World) (h : Ks w v m f) :
    Calls Tryz.prog 77 #[v, .int .i64 x] w fun e w' => e = .returned (.bool (decide (onK m f x))) ∧ w' = w := by
  have CI := Lib.hid (index_any v m f x w h)
  obtain ⟨d, hd⟩ : ∃ d, d = decide (onK m f x) := ⟨_, rfl⟩
  have HD := Lib.hid hd
  rw [← hd]
  clear h hd
  go_enter Tryz.func77, Tryz.ntmps77
  go_wp2_with fail
  refine CI.out.mono ?_
  rintro e w1 ⟨⟨i, hi, hx, rfl⟩ | ⟨hn, rfl⟩, rfl⟩
  · obtain rfl : d = true := by rw [HD.out]; exact decide_eq_true ⟨i, hi, hx⟩
    have h0 : (0 : Int) ≤ (i : Int) := by omega
    go_wp2
    go_ret
    exact ⟨rfl, rfl⟩
  · obtain rfl : d = false := by rw [HD.out]; exact decide_eq_false fun ⟨i, hi, hx⟩ => hn i hi hx
    go_wp2
    go_ret
    exact ⟨rfl, rfl⟩
theorem id_any (p s : Nat) (hp : p < 100000) (hs : s < 100000) (w : World) : Calls Tryz.prog 50 #[.int .i64 p, .int .i64 s] w fun e w' => e = .returned (.int .i64 ((p : Int) * 8 + (s : Int))) ∧ w' = w := by
  go_enter Tryz.func50, Tryz.ntmps50
  go_wp2
  go_ret
  exact ⟨rfl, rfl⟩
/-- May a cell be taken? -/
def free1 (p : Pg) (id m : Nat) (f : Nat → Int) (i : Nat) : Prop := (p.c i).st ≠ 1 ∧ ¬ onK m f ((id : Int) * 8 + (i : Int))
def VacPost (w : World) (p : Pg) (id m : Nat) (f : Nat → Int) (e : Ending) (w' : World) : Prop :=
  ((∀ i, i < 6 → ¬ free1 p id m f i) ∧ e = .returned (.tuple #[.int .i64 0, .bool false]) ∧ Below w.heap.size w w') ∨
  (∃ i : Nat, i < 6 ∧ free1 p id m f i ∧ (∀ q, q < i → ¬ free1 p id m f q) ∧ e = .returned (.tuple #[.int .i64 i, .bool true]) ∧ Below w.heap.size w w')
open Classical in
set_option maxRecDepth 100000 in
set_option maxHeartbeats 4000000 in
theorem vacant_any (p : Pg) (id : Nat) (hid : id < 1024) (v : Value) (m : Nat) (f : Nat → Int) (w : World) (h : Ks w v m f) :
    Calls Tryz.prog 47 #[.int .i64 id, .agg p.cs, v] w (VacPost w p id m f) := by
  have K := Lib.hid (Bk.new w 38 p.cs)
  have B0 := Lib.hid ((Below.refl w.heap.size w).alloc (Nat.le_refl _) (.cells p.cs 38))
  have CC := Lib.hid (fun (w' : World) (hb : Below w.heap.size w w') (x : Int) => contains_any v m f x w' (h.kept hb))
  have CI := Lib.hid (fun (i : Nat) (hi : i < 6) (w' : World) => id_any id i (by omega) (by omega) w')
  have NO := Lib.hid (fun (w' : World) (ha : ∀ i, i < 6 → ¬ free1 p id m f i) (hb : Below w.heap.size w w') => show VacPost w p id m f (.returned (.tuple #[.int .i64 0, .bool false])) w' from .inl ⟨ha, rfl, hb⟩)
  have YES := Lib.hid (fun (w' : World) (i : Nat) (h1 : i < 6) (h2 : free1 p id m f i) (h3 : ∀ q, q < i → ¬ free1 p id m f q) (hb : Below w.heap.size w w') => show VacPost w p id m f (.returned (.tuple #[.int .i64 i, .bool true])) w' from .inr ⟨i, h1, h2, h3, rfl, hb⟩)
  clear h
  go_enter Tryz.func47, Tryz.ntmps47
  go_upto_region 1 with fail
  generalize w.alloc (.cells p.cs 38) = w0 at *
  obtain ⟨G, hG⟩ : ∃ G, G = w.heap.size := ⟨_, rfl⟩
  rw [← hG] at K ⊢
  clear hG
  go_wp2_with (refine load_cells rfl _ rfl G p rfl K.out ?_)
  go_loopw [12] (fun i wr => ∃ j : Nat, j ≤ 6 ∧ i = .int .i64 j ∧ (∀ q, q < j → ¬ free1 p id m f q) ∧ Below w.heap.size w wr) (fun i _ => 6 - (intOf i).toNat)
  case atStart => exact ⟨0, Nat.zero_le _, rfl, (fun q hq => absurd hq (Nat.not_lt_zero q)), B0.out⟩
  case round =>
    obtain ⟨j, hj, rfl, ha, hb⟩ := hrel
    have A1 := Lib.hid ha; have B1 := Lib.hid hb
    clear ha hb B0 K
    by_cases hlt : j < 6
    · have HLT := Lib.hid hlt
      have B2 := Lib.hid (fun o => B1.out.alloc B1.out.size o)
      obtain ⟨cj, hcj⟩ : ∃ cj, cj = p.c j := ⟨_, rfl⟩
      have HC := Lib.hid hcj
      clear hcj
      by_cases hs : cj.st = 1
      · have S := Lib.hid (show ∀ q, q < j + 1 → ¬ free1 p id m f q from fun q hq => by
          by_cases e : q = j
          · rw [e]; exact fun hf => hf.1 (by rw [← HC.out]; exact hs)
          · exact A1.out q (by omega))
        have hsb : (cj.st != 1) = false := by simp [hs]
        go_wp2_with (refine index_cells rfl _ _ rfl p.c j HLT.out rfl rfl ?_; rw [← HC.out])
        go_roundw
        case rel => exact ⟨j + 1, by have := HLT.out; omega, by go_num, S.out, B2.out _⟩
        case measure => have := HLT.out; simp [intOf]; omega
      · have hsb : (cj.st != 1) = true := by simp [hs]
        have NS := Lib.hid hs
        clear hs
        go_wp2_with (refine index_cells rfl _ _ rfl p.c j HLT.out rfl rfl ?_; rw [← HC.out])
        refine (CI.out j HLT.out _).mono ?_
        rintro e w2 ⟨rfl, rfl⟩
        go_wp2_with fail
        refine (CC.out _ (B2.out _) _).mono ?_
        rintro e w3 ⟨rfl, rfl⟩
        by_cases hk : onK m f ((id : Int) * 8 + (j : Int))
        · rw [decide_eq_true hk]
          have S := Lib.hid (show ∀ q, q < j + 1 → ¬ free1 p id m f q from fun q hq => by
            by_cases e : q = j
            · rw [e]; exact fun hf => hf.2 hk
            · exact A1.out q (by omega))
          clear hk
          go_wp2
          go_roundw
          case rel => exact ⟨j + 1, by have := HLT.out; omega, by go_num, S.out, B2.out _⟩
          case measure => have := HLT.out; simp [intOf]; omega
        · rw [decide_eq_false hk]
          have S := Lib.hid (show free1 p id m f j from ⟨by rw [← HC.out]; exact NS.out, hk⟩)
          clear hk
          go_wp2
          refine bodyPost_ret (v := .tuple #[.int .i64 j, .bool true]) (by simp [results, Tryz.results47, go_sem]) rfl ?_
          exact YES.out _ j HLT.out S.out A1.out (B2.out _)
    · have hj6 : j = 6 := by omega
      have h6 : ¬ (j : Int) < 6 := by omega
      have A6 := Lib.hid (show ∀ i, i < 6 → ¬ free1 p id m f i from fun i hi => A1.out i (by omega))
      clear hlt hj hj6
      go_wp2
      refine bodyPost_ret (v := .tuple #[.int .i64 0, .bool false]) (by simp [results, Tryz.results47, go_sem]) rfl ?_
      exact NO.out _ A6.out B1.out
end Go.Proofs.YtelbioooggnbiaaGreat
namespace Go.Proofs.YtelbioooggnbiaaGreat
open Go.RowKit Go.Maps

/-- The volume as it was: its stores, whose each page is, the pages. -/
class Fr where
  st : Nat → Int
  kd : Nat → Nat
  rt : Nat → Nat
  ow : Nat → Option Int
  pg : Nat → Pg
variable [Fr]
/-- Which pages are the heap's (store 1's), in their order, and what each place holds. -/
structure Hp (pg : Nat → Pg) (n : Nat) (ow : Nat → Option Int) (ch : List Nat) (L : Nat → Nat → Ce) : Prop where
  ne : 0 < ch.length
  nd : ch.Nodup
  pgs : ∀ p, p ∈ ch → 2 ≤ p ∧ p < n ∧ (pg p).k = 3 ∧ (pg p).ok ∧ ow p = some 1
  nx : ∀ i, i < ch.length → (pg (ch.getD i 0)).n = ((ch.getD (i + 1) 0 : Nat) : Int)
  cell : ∀ p, p ∈ ch → ∀ i, i < 6 → (pg p).c i = L p i
  out : ∀ p, p ∉ ch → ∀ i, L p i = blank
  only : ∀ i, i ∉ ch → ow i = Fr.ow i
  same : ∀ i, i ≠ 1 → i ∉ ch → pg i = Fr.pg i
  vf : Vol pg n Fr.st Fr.kd Fr.rt ow
  fre : ∀ i, i ∈ ch → Fr.ow i = none ∨ Fr.ow i = some 1
  all : ∀ i, i < n → Fr.ow i = some 1 → i ∈ ch
  hd : ch.getD 0 0 = Fr.rt 0
structure Hc (pg : Nat → Pg) (n : Nat) (ch : List Nat) (L : Nat → Nat → Ce) : Prop where
  ex : ∃ st kd rt ow, Vol pg n st kd rt ow ∧ Hp pg n ow ch L ∧ st 0 = 1 ∧ kd 0 = 1 ∧ rt 0 = ch.getD 0 0
theorem getD_mem {ch : List Nat} {i : Nat} (h : i < ch.length) : ch.getD i 0 ∈ ch := by
  rw [List.getD_eq_getElem?_getD, List.getElem?_eq_getElem h]
  exact List.getElem_mem h
theorem mem_getD {ch : List Nat} {p : Nat} (h : p ∈ ch) : ∃ i, i < ch.length ∧ ch.getD i 0 = p := by
  obtain ⟨i, hi, e⟩ := List.getElem_of_mem h
  exact ⟨i, hi, by rw [List.getD_eq_getElem?_getD, List.getElem?_eq_getElem hi]; exact e⟩
theorem getD_out {ch : List Nat} {i : Nat} (h : ch.length ≤ i) : ch.getD i 0 = 0 := by
  rw [List.getD_eq_getElem?_getD, List.getElem?_eq_none h]; rfl
theorem nodup_lt (l : List Nat) (n : Nat) (hd : l.Nodup) (h : ∀ x ∈ l, x < n) : l.length ≤ n := by
  have := nodup_len_le l (List.range n) hd (fun x hx => List.mem_range.2 (h x hx))
  rwa [List.length_range] at this
theorem all_owned {ch : List Nat} {n : Nat} (h : ∀ i, i < n → i < 2 ∨ i ∈ ch) : n ≤ 2 + ch.length := by
  have := nodup_len_le (List.range n) (0 :: 1 :: ch) List.nodup_range (fun x hx => by
    rcases h x (List.mem_range.1 hx) with h2 | h2
    · rcases (show x = 0 ∨ x = 1 by omega) with e | e <;> subst e <;> simp
    · exact List.mem_cons_of_mem _ (List.mem_cons_of_mem _ h2))
  simp only [List.length_range, List.length_cons] at this
  omega
section
variable {pg : Nat → Pg} {n : Nat} {ch : List Nat} {L : Nat → Nat → Ce}
theorem Hc.len (h : Hc pg n ch L) : 0 < ch.length ∧ ch.length ≤ n ∧ n ≤ 1024 ∧ 4 ≤ n := by
  obtain ⟨st, kd, rt, ow, hv, hp, _⟩ := h.ex
  exact ⟨hp.ne, nodup_lt _ _ hp.nd fun p hpm => (hp.pgs p hpm).2.1, hv.m.hi, hv.m.lo⟩
/-- What a page of the chain is. -/
theorem Hc.page (h : Hc pg n ch L) (i : Nat) (hi : i < ch.length) : 2 ≤ ch.getD i 0 ∧ ch.getD i 0 < n ∧ (pg (ch.getD i 0)).k = 3 ∧ (pg (ch.getD i 0)).s = 1 ∧ (pg (ch.getD i 0)).n = ((ch.getD (i + 1) 0 : Nat) : Int) ∧ (pg (ch.getD i 0)).ok := by
  obtain ⟨st, kd, rt, ow, hv, hp, _⟩ := h.ex
  have hm := hp.pgs _ (getD_mem hi)
  exact ⟨hm.1, hm.2.1, hm.2.2.1, hv.s _ hm.1 hm.2.1 1 hm.2.2.2.2, hp.nx i hi, hm.2.2.2.1⟩
theorem Hc.cell (h : Hc pg n ch L) {p : Nat} (hp : p ∈ ch) {i : Nat} (hi : i < 6) : (pg p).c i = L p i := by
  obtain ⟨st, kd, rt, ow, hv, hpp, _⟩ := h.ex
  exact hpp.cell p hp i hi
theorem Hc.out (h : Hc pg n ch L) {p : Nat} (hp : p ∉ ch) (i : Nat) : L p i = blank := by
  obtain ⟨st, kd, rt, ow, hv, hpp, _⟩ := h.ex
  exact hpp.out p hp i
theorem Hc.nd (h : Hc pg n ch L) : ch.Nodup := by
  obtain ⟨st, kd, rt, ow, hv, hpp, _⟩ := h.ex
  exact hpp.nd
theorem Hc.mem (h : Hc pg n ch L) {p : Nat} (hp : p ∈ ch) : 2 ≤ p ∧ p < n := by
  obtain ⟨st, kd, rt, ow, hv, hpp, _⟩ := h.ex
  exact ⟨(hpp.pgs p hp).1, (hpp.pgs p hp).2.1⟩
theorem Hc.inj (h : Hc pg n ch L) {i j : Nat} (hi : i < ch.length) (hj : j < ch.length) (e : ch.getD i 0 = ch.getD j 0) : i = j := by
  rw [List.getD_eq_getElem?_getD, List.getD_eq_getElem?_getD, List.getElem?_eq_getElem hi, List.getElem?_eq_getElem hj] at e
  exact (List.getElem_inj h.nd).1 e
theorem find_heap {w : World} {B g b gs r N M : Nat} {und : Nat → Pg} (hs : SV w B g b gs r N M und pg) (h : Hc pg n ch L) :
    Calls Tryz.prog 31 #[.pointer (some ⟨g, 0, none⟩), .int .i64 1] w fun e w' => e = .returned (.tuple #[.int .i64 1, .int .i64 (ch.getD 0 0 : Nat), .int .i64 1, .int .i64 0]) ∧ Below w.heap.size w w' := by
  obtain ⟨st, kd, rt, ow, hv, hp, h1, h2, h3⟩ := h.ex
  refine (find_vol hs hv 1).mono ?_
  rintro e w' (⟨hx, -, -⟩ | ⟨-, rfl, hb⟩)
  · exact absurd ⟨by decide, by decide, by rw [show ((1 : Int) - 1).toNat = 0 from rfl, h1]; decide⟩ hx
  · rw [show ((1 : Int) - 1).toNat = 0 from rfl, h1, h2, h3]
    exact ⟨rfl, hb⟩
/-- One cell is another one. -/
def putL (L : Nat → Nat → Ce) (p i : Nat) (c : Ce) : Nat → Nat → Ce := fun q j => if q = p ∧ j = i then c else L q j
theorem putL_at (L : Nat → Nat → Ce) (p i : Nat) (c : Ce) : putL L p i c p i = c := if_pos ⟨rfl, rfl⟩
theorem putL_ne (L : Nat → Nat → Ce) {p i q j : Nat} (c : Ce) (h : ¬ (q = p ∧ j = i)) : putL L p i c q j = L q j := if_neg h
theorem Hc.lay (h : Hc pg n ch L) {p : Nat} (hp : p ∈ ch) {i : Nat} (hi : i < 6) (c : Ce) (hc : c.ok) : Hc (upd pg p (putC (pg p) i c)) n ch (putL L p i c) := by
  obtain ⟨st, kd, rt, ow, hv, hpp, h1, h2, h3⟩ := h.ex
  have hm := hpp.pgs p hp
  have hs := hv.s p hm.1 hm.2.1 1 hm.2.2.2.2
  refine ⟨st, kd, rt, ow, hv.relay p hm.1 _ (by rw [hm.2.2.2.2]; show some (1 : Int) = some (pg p).s; rw [hs]), ⟨hpp.ne, hpp.nd, fun q hq => ?_, fun j hj => ?_, fun q hq j hj => ?_, fun q hq j => ?_, hpp.only, fun q hq1 hq => ?_, hpp.vf.relay p hm.1 _ (by rw [hm.2.2.2.2]; show some (1 : Int) = some (pg p).s; rw [hs]), hpp.fre, hpp.all, hpp.hd⟩, h1, h2, h3⟩
  · have hq2 := hpp.pgs q hq
    unfold upd
    by_cases e : q = p
    · subst e
      rw [if_pos rfl]
      exact ⟨hq2.1, hq2.2.1, hq2.2.2.1, putC_ok2 hq2.2.2.2.1 _ _ hc, hq2.2.2.2.2⟩
    · rw [if_neg e]; exact hq2
  · have := hpp.nx j hj
    unfold upd
    by_cases e : ch.getD j 0 = p
    · rw [if_pos e]
      show (pg p).n = _
      rw [← e]; exact this
    · rw [if_neg e]; exact this
  · unfold upd
    by_cases e : q = p
    · subst e
      rw [if_pos rfl]
      show (if j = i then c else (pg q).c j) = _
      by_cases e2 : j = i
      · rw [if_pos e2, e2, putL_at]
      · rw [if_neg e2, putL_ne _ _ (fun x => e2 x.2)]; exact hpp.cell q hq j hj
    · rw [if_neg e, putL_ne _ _ (fun x => e x.1)]; exact hpp.cell q hq j hj
  · rw [putL_ne _ _ (fun x => hq (by rw [x.1]; exact hp))]; exact hpp.out q hq j
  · unfold upd
    rw [if_neg (fun e => hq (by rw [e]; exact hp))]
    exact hpp.same q hq1 hq
/-- A page more behind the last one. -/
def nextOf (p : Pg) (x : Int) : Pg := ⟨p.k, p.l, p.s, x, p.c⟩
def pgK3 : Pg := ⟨3, 0, 1, 0, fun _ => blank⟩
theorem pgK3_ok : pgK3.ok := ⟨by unfold Pg.head pgK3; dsimp only; omega, fun i _ => blank_ok⟩
theorem Hc.grow (h : Hc pg n ch L) {id : Nat} {st : Nat → Int} {kd rt : Nat → Nat} {ow : Nat → Option Int} {x : Int} (hv0 : Vol pg n st kd rt ow) (hp0 : Hp pg n ow ch L) (h1 : st 0 = 1) (h2 : kd 0 = 1) (h3 : rt 0 = ch.getD 0 0)
    (i2 : 2 ≤ id) (hid : id < n) (ho : ow id = none) {pg2 : Nat → Pg} (hv : Vol pg2 n st kd rt (put ow id (some x))) (hvf : Vol pg2 n Fr.st Fr.kd Fr.rt (put ow id (some x))) (e : ∀ i, i ≠ 1 → pg2 i = pg i) :
    Hc (upd (upd pg2 (ch.getD (ch.length - 1) 0) (nextOf (pg (ch.getD (ch.length - 1) 0)) id)) id pgK3) n (ch ++ [id]) L := by
  have hne := hp0.ne
  have hl : ch.length - 1 < ch.length := by omega
  have hlm := getD_mem hl
  obtain ⟨la, hla⟩ : ∃ la, la = ch.getD (ch.length - 1) 0 := ⟨_, rfl⟩
  rw [← hla] at hlm ⊢
  have hm := hp0.pgs la hlm
  have hnot : id ∉ ch := fun hh => by have := (hp0.pgs id hh).2.2.2.2; rw [ho] at this; cases this
  have hil : id ≠ la := fun e => hnot (e ▸ hlm)
  have hs := hv0.s la hm.1 hm.2.1 1 hm.2.2.2.2
  have v1 := hv.relay la hm.1 (nextOf (pg la) id) (by rw [put_ne _ _ (Ne.symm hil), hm.2.2.2.2]; show some (1 : Int) = some (pg la).s; rw [hs])
  have v2 := v1.lay id i2 pgK3
  rw [put_at, if_pos (show (some x : Option Int).isSome = true from rfl)] at v2
  have v3 := (hvf.relay la hm.1 (nextOf (pg la) id) (by rw [put_ne _ _ (Ne.symm hil), hm.2.2.2.2]; show some (1 : Int) = some (pg la).s; rw [hs])).lay id i2 pgK3
  rw [put_at, if_pos (show (some x : Option Int).isSome = true from rfl)] at v3
  have eo : put (put ow id (some x)) id (some pgK3.s) = put ow id (some 1) := by
    funext i
    unfold put
    split <;> rfl
  rw [eo] at v2 v3
  have g1 : ∀ i, i < ch.length → (ch ++ [id]).getD i 0 = ch.getD i 0 := fun i hi => by
    rw [List.getD_eq_getElem?_getD, List.getElem?_append_left hi, List.getD_eq_getElem?_getD]
  have g2 : (ch ++ [id]).getD ch.length 0 = id := by
    rw [List.getD_eq_getElem?_getD, List.getElem?_append_right (Nat.le_refl _), Nat.sub_self]; rfl
  have g3 : (ch ++ [id]).getD (ch.length + 1) 0 = 0 := getD_out (by simp)
  refine ⟨st, kd, rt, _, v2, ⟨by simp, ?_, fun q hq => ?_, fun j hj => ?_, fun q hq j hj => ?_, fun q hq j => ?_, fun j hj => ?_, fun j hj1 hj => ?_, v3, fun q hq => ?_, fun q h1 h2 => List.mem_append_left _ (hp0.all q h1 h2), by rw [g1 0 (by omega)]; exact hp0.hd⟩, h1, h2, ?_⟩
  · rw [List.nodup_append]
    exact ⟨hp0.nd, by simp, fun a ha b hb => by simp at hb; subst hb; exact fun e => hnot (e ▸ ha)⟩
  · rcases List.mem_append.1 hq with hq | hq
    · have hq2 := hp0.pgs q hq
      have hqi : q ≠ id := fun e => hnot (e ▸ hq)
      unfold upd
      rw [if_neg hqi, put_ne _ _ hqi]
      by_cases e2 : q = la
      · subst e2
        rw [if_pos rfl]
        refine ⟨hq2.1, hq2.2.1, hq2.2.2.1, ⟨?_, hq2.2.2.2.1.2⟩, hq2.2.2.2.2⟩
        have ho2 := hq2.2.2.2.1.1
        have := hv0.m.hi
        unfold Pg.head nextOf at *
        dsimp only
        omega
      · rw [if_neg e2, e q (by omega)]; exact hq2
    · have : q = id := by simpa using hq
      subst this
      unfold upd
      rw [if_pos rfl, put_at]
      exact ⟨i2, hid, rfl, pgK3_ok, rfl⟩
  · rw [List.length_append] at hj
    change j < ch.length + 1 at hj
    by_cases hjl : j < ch.length
    · rw [g1 j hjl]
      have hq := getD_mem hjl
      have hqi : ch.getD j 0 ≠ id := fun e => hnot (e ▸ hq)
      unfold upd
      rw [if_neg hqi]
      by_cases e2 : ch.getD j 0 = la
      · rw [if_pos e2]
        have hj2 : j = ch.length - 1 := by
          rw [hla, List.getD_eq_getElem?_getD, List.getD_eq_getElem?_getD, List.getElem?_eq_getElem hjl, List.getElem?_eq_getElem hl] at e2
          exact (List.getElem_inj hp0.nd).1 e2
        rw [show j + 1 = ch.length by omega, g2]; rfl
      · rw [if_neg e2, e _ (by have := (hp0.pgs _ hq).1; omega)]
        have hj2 : j ≠ ch.length - 1 := fun e3 => e2 (by rw [e3, hla])
        rw [g1 (j + 1) (by omega)]
        exact hp0.nx j hjl
    · obtain rfl : j = ch.length := by omega
      rw [g2, g3]
      unfold upd
      rw [if_pos rfl]; rfl
  · rcases List.mem_append.1 hq with hq | hq
    · have hqi : q ≠ id := fun e => hnot (e ▸ hq)
      unfold upd
      rw [if_neg hqi]
      by_cases e2 : q = la
      · subst e2
        rw [if_pos rfl]
        exact hp0.cell q hq j hj
      · rw [if_neg e2, e q (by have := (hp0.pgs q hq).1; omega)]; exact hp0.cell q hq j hj
    · have : q = id := by simpa using hq
      subst this
      unfold upd
      rw [if_pos rfl, hp0.out q hnot j]; rfl
  · exact hp0.out q (fun hh => hq (List.mem_append_left _ hh)) j
  · rw [put_ne _ _ (fun e3 => hj (by rw [e3]; simp))]
    exact hp0.only j fun hh => hj (List.mem_append_left _ hh)
  · have hjc : j ∉ ch := fun hh => hj (List.mem_append_left _ hh)
    unfold upd
    rw [if_neg (fun e3 => hj (by rw [e3]; simp)), if_neg (fun e3 => hjc (by rw [e3]; exact hlm)), e j hj1]
    exact hp0.same j hj1 hjc
  · rcases List.mem_append.1 hq with hq | hq
    · exact hp0.fre q hq
    · have : q = id := by simpa using hq
      subst this
      left
      rw [← hp0.only q hnot]; exact ho
  · rw [g1 0 hne]; exact h3
/-- The record at an id. -/
def rcP (L : Nat → Nat → Ce) (id : Int) : Prop := 0 ≤ id ∧ id.toNat % 8 < 6 ∧ (L (id.toNat / 8) (id.toNat % 8)).st = 1
theorem rcP_nat (L : Nat → Nat → Ce) (p i : Nat) (hi : i < 6) : rcP L ((p : Int) * 8 + (i : Int)) ↔ (L p i).st = 1 := by
  unfold rcP
  rw [show ((p : Int) * 8 + (i : Int)).toNat = p * 8 + i by omega, show (p * 8 + i) / 8 = p by omega, show (p * 8 + i) % 8 = i by omega]
  exact ⟨fun h => h.2.2, fun h => ⟨by omega, hi, h⟩⟩
theorem rcP_ex {L : Nat → Nat → Ce} {id : Int} (h : rcP L id) : ∃ p i : Nat, i < 6 ∧ id = (p : Int) * 8 + (i : Int) ∧ (L p i).st = 1 :=
  ⟨id.toNat / 8, id.toNat % 8, h.2.1, by have := h.1; omega, h.2.2⟩
theorem Hc.rc_mem (h : Hc pg n ch L) {p i : Nat} (hs : (L p i).st = 1) : p ∈ ch := by
  by_cases hp : p ∈ ch
  · exact hp
  · rw [h.out hp i] at hs; cases hs
end
end Go.Proofs.YtelbioooggnbiaaGreat
namespace Go.Proofs.YtelbioooggnbiaaGreat
open Go.RowKit Go.Maps
variable [Fr]

set_option maxRecDepth 100000 in
set_option maxHeartbeats 4000000 in
theorem walk_any {w : World} {B g b gs r N M n : Nat} {und pg : Nat → Pg} {ch : List Nat} {L : Nat → Nat → Ce} (hc : Hc pg n ch L) (fk : Nat) (cap : Array Value)
    (eg : ∀ args w, (callFunc fk args).run Tryz.prog w = .ok (.enter fk args) w)
    (V : Nat → World → Prop) (D : Nat → World → Prop) (hn : n ≤ N)
    (hsv : ∀ i w', V i w' → SV w' B g b gs r N M und pg)
    (hk : ∀ i w' w'', V i w' → Below w'.heap.size w' w'' → V i w'')
    (hv : ∀ (i : Nat) (w' : World), i < ch.length → V i w' → Calls Tryz.prog fk (#[.int .i64 (ch.getD i 0 : Nat), .agg (pg (ch.getD i 0)).cs] ++ cap) w' fun e w'' => ((e = .returned (.bool false) ∧ V (i + 1) w'') ∨ (e = .returned (.bool true) ∧ D i w'')) ∧ (∀ q cs, w.heap.size ≤ q → Bk w' q 38 cs → Bk w'' q 38 cs))
    (hsz : ∀ i w', V i w' → w.heap.size ≤ w'.heap.size) (h0 : V 0 w) :
    Calls Tryz.prog 45 #[.pointer (some ⟨g, 0, none⟩), .int .i64 1, .func (.func fk) #[] cap] w fun e w' => e = .returned (.int .i64 0) ∧ (V ch.length w' ∨ ∃ i, i < ch.length ∧ D i w') := by
  have HC := Lib.hid hc; have HSV := Lib.hid hsv; have HK := Lib.hid hk; have HV := Lib.hid hv; have V0 := Lib.hid h0; have SZ := Lib.hid hsz
  have LN := Lib.hid hc.len
  have CF := Lib.hid (fun w' i (h : V i w') => find_heap (hsv i w' h) hc)
  have CG := Lib.hid (fun w' i (h : V i w') (q : Nat) (hq : q < N) => sv_get (hsv i w' h) q hq)
  have HN := Lib.hid hn
  clear hc hsv hk hv h0 hn hsz
  go_enter Tryz.func45, Tryz.ntmps45
  go_wp2_with fail
  refine (CF.out w 0 V0.out).mono ?_
  rintro e w1 ⟨rfl, hb⟩
  have V1 := Lib.hid (HK.out 0 _ _ V0.out hb)
  clear hb V0 CF
  as_aux_lemma =>
    go_wp2_with fail
    go_loopw [8, 30] (fun c i wr => ∃ j : Nat, j < ch.length ∧ i = .int .i64 j ∧ c = .int .i64 (ch.getD j 0 : Nat) ∧ V j wr) (fun _ i _ => 1024 - (intOf i).toNat)
    case atStart => exact ⟨0, LN.out.1, rfl, rfl, V1.out⟩
    case round =>
      obtain ⟨j, hj, rfl, rfl, hvj⟩ := hrel
      have VJ := Lib.hid hvj
      clear hvj V1
      have PG := HC.out.page j hj
      have j1024 : (j : Int) < 1024 := by have := LN.out; omega
      obtain ⟨p, hp⟩ : ∃ p, p = pg (ch.getD j 0) := ⟨_, rfl⟩
      obtain ⟨c, hcj⟩ : ∃ c, c = ch.getD j 0 := ⟨_, rfl⟩
      have CG1 := Lib.hid (CG.out wr j VJ.out (ch.getD j 0) (by have := HN.out; omega))
      have HV1 := Lib.hid (fun w' (h : V j w') => HV.out j w' hj h)
      rw [← hp, ← hcj] at PG
      rw [← hcj] at hp
      rw [← hcj, ← hp] at CG1 HV1
      have PK := Lib.hid PG
      have HJ := Lib.hid hj
      have HCJ := Lib.hid hcj
      rw [← hcj]
      have HP := Lib.hid hp
      clear CG HV PG hj hcj hp
      as_aux_lemma =>
        go_wp2_with fail
        refine CG1.out.mono ?_
        rintro e w2 ⟨rfl, hb⟩
        have hbb := hb.alloc hb.size (.cells p.cs 38)
        have V2 := Lib.hid (HK.out j _ _ VJ.out hbb)
        have K2 := Lib.hid (Bk.new w2 38 p.cs)
        obtain ⟨G, hG⟩ : ∃ G, G = w2.heap.size := ⟨_, rfl⟩
        rw [← hG] at K2
        have GN := Lib.hid (show w.heap.size ≤ G by rw [hG]; exact SZ.out j _ (HK.out j _ _ VJ.out hb))
        have c0 : (w2.alloc (.cells p.cs 38)).cell? ⟨G, 0, none⟩ = some (.int .i64 3) := by rw [K2.out.cell]; show some (Value.int .i64 p.k) = _; rw [PK.out.2.2.1]
        have c2 : (w2.alloc (.cells p.cs 38)).cell? ⟨G, 2, none⟩ = some (.int .i64 1) := by rw [K2.out.cell]; show some (Value.int .i64 p.s) = _; rw [PK.out.2.2.2.1]
        clear hb hbb CG1 VJ
        dsimp only
        go_upto_region 9 with (refine store_page_new rfl _ _ rfl p rfl rfl ?_; rw [← hG]; clear hG; generalize w2.alloc (.cells p.cs 38) = w3 at *)
        go_wp2_with (refine load_page rfl _ rfl G p rfl K2.out ?_)
        refine (HV1.out w3 V2.out).mono ?_
        rintro e w4 ⟨⟨rfl, hv⟩ | ⟨rfl, hd⟩, hpg⟩
        · have V4 := Lib.hid hv
          have K4 := Lib.hid (hpg G _ GN.out K2.out)
          have c3 : w4.cell? ⟨G, 3, none⟩ = some (.int .i64 (ch.getD (j + 1) 0 : Nat)) := by rw [K4.out.cell]; show some (Value.int .i64 p.n) = _; rw [PK.out.2.2.2.2.1]
          clear hv hpg V2 K2 c0 c2 HV1
          by_cases hl : j + 1 < ch.length
          · have HL := Lib.hid hl
            have P2 := HC.out.page (j + 1) hl
            obtain ⟨nx, hnx⟩ : ∃ nx, nx = ch.getD (j + 1) 0 := ⟨_, rfl⟩
            rw [← hnx] at c3 P2
            have n0 : ¬ nx = 0 := by omega
            have n1 : ((nx : Int) == 0) = false := by simp; omega
            have NX := Lib.hid hnx
            clear hl P2 hnx
            go_wp2
            go_roundw
            case rel => exact ⟨j + 1, HL.out, by go_num, by rw [← NX.out], V4.out⟩
            case measure => have := HL.out; have := LN.out; simp [intOf]; omega
          · rw [getD_out (by omega)] at c3
            have hj1 : j + 1 = ch.length := by have := HJ.out; omega
            rw [hj1] at V4
            clear hl
            rw [show ((0 : Nat) : Int) = 0 from rfl] at c3
            go_wp2
            go_ret
            exact ⟨rfl, .inl V4.out⟩
        · have D4 := Lib.hid hd
          clear hd hpg V2 K2 c0 c2 HV1
          go_wp2
          go_ret
          exact ⟨rfl, .inr ⟨j, HJ.out, D4.out⟩⟩
end Go.Proofs.YtelbioooggnbiaaGreat
namespace Go.Proofs.YtelbioooggnbiaaGreat
open Go.RowKit Go.Maps
variable [Fr]

/-- Is it here? -/
def hitP (c : Nat) (p : Pg) (id : Int) : Prop := 0 ≤ id ∧ c = id.toNat / 8 ∧ id.toNat % 8 < 6 ∧ (p.c (id.toNat % 8)).st = 1
open Classical in
set_option maxRecDepth 100000 in
set_option maxHeartbeats 4000000 in
theorem visit_seek (c : Nat) (p pz0 : Pg) (id : Int) (hid : -9223372036854775808 ≤ id ∧ id ≤ 9223372036854775807) (A I S F : Nat) (bz : Bool) (w : World)
    (hA : Bk w A 38 pz0.cs) (hI : Bk w I 3 #[.int .i64 id]) (hS : Bk w S 3 #[.int .i64 (id.tmod 8)]) (hF : Bk w F 4 #[.bool bz]) :
    Calls Tryz.prog 78 #[.int .i64 c, .agg p.cs, .pointer (some ⟨A, 0, none⟩), .pointer (some ⟨I, 0, none⟩), .pointer (some ⟨S, 0, none⟩), .pointer (some ⟨F, 0, none⟩)] w fun e w' =>
      e = .returned (.bool (decide (hitP c p id))) ∧ Bk w' A 38 p.cs ∧ Bk w' F 4 #[.bool (decide (hitP c p id))] ∧ ∃ w1, w.grownBy w1 (some A) ∧ w1.grownBy w' (some F) := by
  have K := Lib.hid (Bk.new w 38 p.cs)
  have A0 := Lib.hid (hA.alloc (.cells p.cs 38))
  have I0 := Lib.hid (hI.alloc (.cells p.cs 38))
  have S0 := Lib.hid (hS.alloc (.cells p.cs 38))
  have F0 := Lib.hid (hF.alloc (.cells p.cs 38))
  obtain ⟨res, hres⟩ : ∃ res, res = decide (hitP c p id) := ⟨_, rfl⟩
  rw [← hres]
  have HR := Lib.hid hres
  have HID := Lib.hid hid
  have GA := Lib.hid (show w.grownBy (w.alloc (.cells p.cs 38)) none from World.grownBy_alloc w _ none)
  have NE := Lib.hid (show A ≠ w.heap.size ∧ F ≠ w.heap.size from ⟨by have := Bk.lt hA; omega, by have := Bk.lt hF; omega⟩)
  have AF := Lib.hid (Bk.ne_ hA hF (by decide))
  have AI := Lib.hid (Bk.ne_ hA hI (by decide))
  have AS := Lib.hid (Bk.ne_ hA hS (by decide))
  clear hA hI hS hF hres hid
  go_enter Tryz.func78, Tryz.ntmps78
  go_upto_region 1 with fail
  generalize w.alloc (.cells p.cs 38) = w0 at *
  obtain ⟨G, hG⟩ : ∃ G, G = w.heap.size := ⟨_, rfl⟩
  rw [← hG] at K NE ⊢
  clear hG
  go_upto_region 2 with (first | (refine load_page rfl _ rfl G p rfl K.out ?_) | (refine store_page rfl _ _ rfl A p pz0 rfl rfl A0.out ?_))
  have GB := Lib.hid (show w.grownBy (w0.setRow A p.cs) (some A) from ⟨GA.out.os, GA.out.tape, GA.out.output, by have := GA.out.size; simpa [World.setRow] using this, fun k hk hne => (setRow_other w0 A k p.cs (fun e => hne (by rw [e]))).trans (GA.out.block k hk (by simp))⟩)
  have A1 := Lib.hid (row_bk (p := p) A0.out)
  have I1 := Lib.hid (row_far (cs := p.cs) I0.out AI.out.symm)
  have S1 := Lib.hid (row_far (cs := p.cs) S0.out AS.out.symm)
  have F1 := Lib.hid (row_far (cs := p.cs) F0.out AF.out.symm)
  have G1 := Lib.hid (row_far (cs := p.cs) K.out NE.out.1.symm)
  generalize w0.setRow A p.cs = w1 at *
  clear A0 I0 S0 F0 K GA
  have i0 : w1.cell? ⟨I, 0, none⟩ = some (.int .i64 id) := I1.out.cell 0
  have f0 : w1.frozen? ⟨F, 0, none⟩ = false := F1.out.fz 0
  have f1 : w1.cell? ⟨F, 0, none⟩ = some (.bool bz) := F1.out.cell 0
  have FIN := Lib.hid (fun (bb : Bool) (hb : bb = res) => show Bk (w1.setCell ⟨F, 0, none⟩ (.bool bb)) A 38 p.cs ∧ Bk (w1.setCell ⟨F, 0, none⟩ (.bool bb)) F 4 #[.bool bb] ∧ ∃ w2, w.grownBy w2 (some A) ∧ w2.grownBy (w1.setCell ⟨F, 0, none⟩ (.bool bb)) (some F) from
    ⟨A1.out.far AF.out _, F1.out.set 0 (.bool bb), w1, GB.out, only_set ⟨rfl, rfl, rfl, Nat.le_refl _, fun _ _ _ => rfl⟩ 0 _⟩)
  by_cases h0 : 0 ≤ id
  · obtain ⟨k, rfl⟩ : ∃ k : Nat, id = (k : Int) := ⟨id.toNat, by omega⟩
    have hm : (k : Int).tmod 8 = ((k % 8 : Nat) : Int) := by rw [Int.tmod_eq_emod_of_nonneg (by omega)]; rfl
    have hd : (k : Int).tdiv 8 = ((k / 8 : Nat) : Int) := by rw [Int.tdiv_eq_ediv_of_nonneg (by omega)]; rfl
    rw [hm] at S1
    have s0 : w1.cell? ⟨S, 0, none⟩ = some (.int .i64 (k % 8 : Nat)) := S1.out.cell 0
    obtain ⟨q, hq⟩ : ∃ q, q = k / 8 := ⟨_, rfl⟩
    obtain ⟨s, hs⟩ : ∃ s, s = k % 8 := ⟨_, rfl⟩
    rw [← hq] at hd
    rw [← hs] at s0
    have R := Lib.hid (show res = decide (c = q ∧ s < 6 ∧ (p.c s).st = 1) by
      rw [HR.out]
      unfold hitP
      rw [Int.toNat_natCast, ← hq, ← hs]
      simp)
    have wq : wrap64 (q : Int) = (q : Int) := by have := HID.out; unfold wrap64; omega
    clear hm hq hs S1
    by_cases hc : c = q
    · have hcb : ((c : Int) == (q : Int)) = true := by simp [hc]
      by_cases h6 : s < 6
      · have h6b : (s : Int) < 6 := by omega
        have x0 : w1.cell? ⟨G, 4 + s * 2, none⟩ = some (.int .i64 (p.c s).st) := by
          rw [G1.out.cell]; rcases six h6 with h | h | h | h | h | h <;> rw [h] <;> rfl
        obtain ⟨st, hst⟩ : ∃ st, st = (p.c s).st := ⟨_, rfl⟩
        rw [← hst] at x0
        by_cases h1 : st = 1
        · have h1b : (st == 1) = true := by simp [h1]
          have RT := Lib.hid (FIN.out true (by rw [R.out]; exact (decide_eq_true ⟨hc, h6, by rw [← hst]; exact h1⟩).symm))
          have RR := Lib.hid (show res = true by rw [R.out]; exact decide_eq_true ⟨hc, h6, by rw [← hst]; exact h1⟩)
          clear hst hc
          go_wp2
          go_ret
          exact ⟨by rw [RR.out]; rfl, by rw [RR.out]; exact RT.out⟩
        · have h1b : (st == 1) = false := by simp [h1]
          have RT := Lib.hid (FIN.out false (by rw [R.out]; exact (decide_eq_false (fun h => h1 (by rw [hst]; exact h.2.2))).symm))
          have RR := Lib.hid (show res = false by rw [R.out]; exact decide_eq_false (fun h => h1 (by rw [hst]; exact h.2.2)))
          clear hst hc
          go_wp2
          go_ret
          exact ⟨by rw [RR.out]; rfl, by rw [RR.out]; exact RT.out⟩
      · have h6b : ¬ (s : Int) < 6 := by omega
        have RT := Lib.hid (FIN.out false (by rw [R.out]; exact (decide_eq_false (fun h => h6 h.2.1)).symm))
        have RR := Lib.hid (show res = false by rw [R.out]; exact decide_eq_false (fun h => h6 h.2.1))
        clear hc
        go_wp2
        go_ret
        exact ⟨by rw [RR.out]; rfl, by rw [RR.out]; exact RT.out⟩
    · have hcb : ((c : Int) == (q : Int)) = false := by simp; omega
      have RT := Lib.hid (FIN.out false (by rw [R.out]; exact (decide_eq_false (fun h => hc h.1)).symm))
      have RR := Lib.hid (show res = false by rw [R.out]; exact decide_eq_false (fun h => hc h.1))
      skip
      go_wp2
      go_ret
      exact ⟨by rw [RR.out]; rfl, by rw [RR.out]; exact RT.out⟩
  · have RT := Lib.hid (FIN.out false (by rw [HR.out]; exact (decide_eq_false (fun h => h0 h.1)).symm))
    have RR := Lib.hid (show res = false by rw [HR.out]; exact decide_eq_false (fun h => h0 h.1))
    skip
    go_wp2
    go_ret
    exact ⟨by rw [RR.out]; rfl, by rw [RR.out]; exact RT.out⟩
end Go.Proofs.YtelbioooggnbiaaGreat
namespace Go.Proofs.YtelbioooggnbiaaGreat
open Go.RowKit Go.Maps
variable [Fr]

section
variable {ops : Array Oper} {rest : List Oper} {o : Oper} {a : Act} {w : World} {Q : Exit → Act → World → Prop}
theorem build_pgH (hg : o.guard = none) (x : Operand) (ho : o.op = .build 38 #[(0, .const (.int .i64 3)), (2, x)]) (hx : a.eval x = .int .i64 1) (h : wpList Tryz.prog ops Q rest (a.put o.dst (.agg pgK3.cs)) w) : wpList Tryz.prog ops Q (o :: rest) a w := by
  refine wpList_plain hg fun K' hK' => ?_
  have hb : (Instr.build 38 #[(0, .int .i64 3), (2, .int .i64 1)]).run Tryz.prog w = .ok (.agg pgK3.cs) w := by kernel_rfl
  unfold Oper.wp execOp
  have hc : a.eval (.const (.int .i64 3)) = .int .i64 3 := rfl
  simp only [ho, Sem.run_bind, Sem.run_pure, Result.andThen_ok, List.map_toArray, List.map_cons, List.map_nil, hx, hc, hb]
  exact hK' _ _ h
end
end Go.Proofs.YtelbioooggnbiaaGreat
namespace Go.Proofs.YtelbioooggnbiaaGreat
open Go.RowKit Go.Maps
variable [Fr]

section
variable {ops : Array Oper} {S : World → Prop} {o : Oper} {a : Act}
end
section
variable {ops : Array Oper} {Q : Exit → Act → World → Prop} {K : Act → World → Prop} {i : Nat} {o : Oper} {a : Act} {w : World}
end
section
variable {P : Program} {ops : Array Oper} {Q : Exit → Act → World → Prop} {K : Act → World → Prop} {i : Nat} {o : Oper} {a : Act} {w : World}
end
end Go.Proofs.YtelbioooggnbiaaGreat
namespace Go.Proofs.YtelbioooggnbiaaGreat
open Go.RowKit Go.Maps
variable [Fr]

theorem hit_rc {pg : Nat → Pg} {n : Nat} {ch : List Nat} {L : Nat → Nat → Ce} (h : Hc pg n ch L) {id : Int} {i : Nat} (hi : i < ch.length) (hh : hitP (ch.getD i 0) (pg (ch.getD i 0)) id) : ∃ p s : Nat, s < 6 ∧ id = (p : Int) * 8 + (s : Int) ∧ p = ch.getD i 0 ∧ id.toNat % 8 = s ∧ (L p s).st = 1 := by
  obtain ⟨h1, h2, h3, h4⟩ := hh
  refine ⟨id.toNat / 8, id.toNat % 8, h3, by omega, h2.symm, rfl, ?_⟩
  rw [← h.cell (by rw [← h2]; exact getD_mem hi) h3, ← h2]
  exact h4
theorem rc_hit {pg : Nat → Pg} {n : Nat} {ch : List Nat} {L : Nat → Nat → Ce} (h : Hc pg n ch L) {id : Int} (hr : rcP L id) : ∃ i, i < ch.length ∧ hitP (ch.getD i 0) (pg (ch.getD i 0)) id := by
  have hm := h.rc_mem hr.2.2
  obtain ⟨i, hi, e⟩ := mem_getD hm
  refine ⟨i, hi, hr.1, e, hr.2.1, ?_⟩
  rw [e, h.cell hm hr.2.1]
  exact hr.2.2
def SeekPost (w : World) (pg : Nat → Pg) (ch : List Nat) (L : Nat → Nat → Ce) (id : Int) (e : Ending) (w' : World) : Prop :=
  ((∃ p s : Nat, s < 6 ∧ id = (p : Int) * 8 + (s : Int) ∧ p ∈ ch ∧ (L p s).st = 1 ∧ e = .returned (.tuple #[.agg (pg p).cs, .int .i64 s, .int .i64 0])) ∨
   (¬ rcP L id ∧ e = .returned (.tuple #[.agg Pg.zero.cs, .int .i64 0, .int .i64 150]))) ∧ Below w.heap.size w w'
open Classical in
set_option maxRecDepth 100000 in
set_option maxHeartbeats 8000000 in
theorem seek_any {w : World} {B g b gs r N M n : Nat} {und pg : Nat → Pg} {ch : List Nat} {L : Nat → Nat → Ce} (h : SV w B g b gs r N M und pg) (hn : n ≤ N) (hc : Hc pg n ch L) (id : Int) (hid : -9223372036854775808 ≤ id ∧ id ≤ 9223372036854775807) :
    Calls Tryz.prog 51 #[.pointer (some ⟨g, 0, none⟩), .int .i64 1, .int .i64 id] w (SeekPost w pg ch L id) := by
  have HV := Lib.hid h; have HC := Lib.hid hc; have HID := Lib.hid hid; have HN := Lib.hid hn
  have NEG := Lib.hid h.gs_ne
  have NO := Lib.hid (fun (w' : World) (hx : ¬ rcP L id) (hb : Below w.heap.size w w') => show SeekPost w pg ch L id (.returned (.tuple #[.agg Pg.zero.cs, .int .i64 0, .int .i64 150])) w' from ⟨.inr ⟨hx, rfl⟩, hb⟩)
  have YES := Lib.hid (fun (w' : World) (p s : Nat) (h1 : s < 6) (h2 : id = (p : Int) * 8 + (s : Int)) (h3 : p ∈ ch) (h4 : (L p s).st = 1) (hb : Below w.heap.size w w') => show SeekPost w pg ch L id (.returned (.tuple #[.agg (pg p).cs, .int .i64 s, .int .i64 0])) w' from ⟨.inl ⟨p, s, h1, h2, h3, h4, rfl⟩, hb⟩)
  obtain ⟨tm, htm⟩ : ∃ tm, tm = id.tmod 8 := ⟨_, rfl⟩
  have TM := Lib.hid htm
  have w8 : wrap64 tm = tm := by
    have h1 : id.tmod 8 < 8 := Int.tmod_lt_of_pos id (by omega)
    have h2 : -8 < id.tmod 8 := by have := Int.lt_tmod_of_pos id (b := 8) (by omega); omega
    rw [htm]; unfold wrap64; omega
  clear h hc hid hn htm
  go_enter Tryz.func51, Tryz.ntmps51
  go_upto_region 3 with fail
  change Code.wp _ _ _ _ (((((w.alloc (.cells #[.int .i64 id] 3)).alloc (.cells Pg.zero.cs 38)).alloc (.cells Pg.zero.cs 38)).alloc (.cells #[.int .i64 (id.tmod 8)] 3)).alloc (.cells #[.bool false] 4))
  have KI := Lib.hid (((((Bk.new w 3 #[.int .i64 id]).alloc (.cells Pg.zero.cs 38)).alloc (.cells Pg.zero.cs 38)).alloc (.cells #[.int .i64 (id.tmod 8)] 3)).alloc (.cells #[.bool false] 4))
  have KR := Lib.hid ((((Bk.new2 w (.cells #[.int .i64 id] 3) 38 Pg.zero.cs).alloc (.cells Pg.zero.cs 38)).alloc (.cells #[.int .i64 (id.tmod 8)] 3)).alloc (.cells #[.bool false] 4))
  have KA := Lib.hid (((Bk.new3 w (.cells #[.int .i64 id] 3) (.cells Pg.zero.cs 38) 38 Pg.zero.cs).alloc (.cells #[.int .i64 (id.tmod 8)] 3)).alloc (.cells #[.bool false] 4))
  have KS := Lib.hid ((bk_at (w := ((w.alloc (.cells #[.int .i64 id] 3)).alloc (.cells Pg.zero.cs 38)).alloc (.cells Pg.zero.cs 38)) (k := w.heap.size + 1 + 1 + 1) (by simp) 3 #[.int .i64 (id.tmod 8)]).alloc (.cells #[.bool false] 4))
  have KF := Lib.hid (bk_at (w := (((w.alloc (.cells #[.int .i64 id] 3)).alloc (.cells Pg.zero.cs 38)).alloc (.cells Pg.zero.cs 38)).alloc (.cells #[.int .i64 (id.tmod 8)] 3)) (k := w.heap.size + 1 + 1 + 1 + 1) (by simp) 4 #[.bool false])
  have V5 := Lib.hid (((((HV.out.alloc (.cells #[.int .i64 id] 3)).alloc (.cells Pg.zero.cs 38)).alloc (.cells Pg.zero.cs 38)).alloc (.cells #[.int .i64 (id.tmod 8)] 3)).alloc (.cells #[.bool false] 4))
  have B5 := Lib.hid (show Below w.heap.size w (((((w.alloc (.cells #[.int .i64 id] 3)).alloc (.cells Pg.zero.cs 38)).alloc (.cells Pg.zero.cs 38)).alloc (.cells #[.int .i64 (id.tmod 8)] 3)).alloc (.cells #[.bool false] 4)) from
    (((((Below.refl _ _).alloc (Nat.le_refl _) _).alloc (by simp) _).alloc (by simp; omega) _).alloc (by simp; omega) _).alloc (by simp; omega) _)
  obtain ⟨w5, hw5⟩ : ∃ w5, w5 = (((((w.alloc (.cells #[.int .i64 id] 3)).alloc (.cells Pg.zero.cs 38)).alloc (.cells Pg.zero.cs 38)).alloc (.cells #[.int .i64 (id.tmod 8)] 3)).alloc (.cells #[.bool false] 4)) := ⟨_, rfl⟩
  rw [← hw5] at KI KR KA KS KF V5 B5 ⊢
  clear hw5
  obtain ⟨F, hF⟩ : ∃ F, F = w.heap.size + 1 + 1 + 1 + 1 := ⟨_, rfl⟩
  rw [← hF] at KF ⊢
  obtain ⟨S, hS⟩ : ∃ S, S = w.heap.size + 1 + 1 + 1 := ⟨_, rfl⟩
  rw [← hS] at KS ⊢
  obtain ⟨A, hA⟩ : ∃ A, A = w.heap.size + 1 + 1 := ⟨_, rfl⟩
  rw [← hA] at KA ⊢
  obtain ⟨R, hR⟩ : ∃ R, R = w.heap.size + 1 := ⟨_, rfl⟩
  rw [← hR] at KR ⊢
  obtain ⟨I, hI⟩ : ∃ I, I = w.heap.size := ⟨_, rfl⟩
  rw [← hI] at KI ⊢
  have SZ := Lib.hid (show I = w.heap.size ∧ R = w.heap.size + 1 ∧ A = w.heap.size + 1 + 1 ∧ S = w.heap.size + 1 + 1 + 1 ∧ F = w.heap.size + 1 + 1 + 1 + 1 ∧ F < w5.heap.size from ⟨hI, hR, hA, hS, hF, KF.out.lt⟩)
  have NEA := Lib.hid (show A ≠ g ∧ A ≠ b ∧ A ≠ gs ∧ A ≠ r by have := SZ.out; have := NEG.out; omega)
  have NEF := Lib.hid (show F ≠ g ∧ F ≠ b ∧ F ≠ gs ∧ F ≠ r by have := SZ.out; have := NEG.out; omega)
  rw [← TM.out] at KS
  clear hI hR hA hS hF HV
  have CW := Lib.hid (walk_any HC.out 78 #[.pointer (some ⟨A, 0, none⟩), .pointer (some ⟨I, 0, none⟩), .pointer (some ⟨S, 0, none⟩), .pointer (some ⟨F, 0, none⟩)]
    (enters_of Tryz.func78 (by kernel_rfl) rfl) (w := w5) (B := B) (g := g) (b := b) (gs := gs) (r := r) (N := N) (M := M) (und := und)
    (fun i w' => SV w' B g b gs r N M und pg ∧ w5.heap.size ≤ w'.heap.size ∧ Bk w' I 3 #[.int .i64 id] ∧ Bk w' S 3 #[.int .i64 tm] ∧ Bk w' F 4 #[.bool false] ∧ (∃ p0 : Pg, Bk w' A 38 p0.cs) ∧ Bk w' R 38 Pg.zero.cs ∧ Below w.heap.size w w' ∧ ∀ q, q < i → ¬ hitP (ch.getD q 0) (pg (ch.getD q 0)) id)
    (fun i w' => Bk w' A 38 (pg (ch.getD i 0)).cs ∧ Bk w' S 3 #[.int .i64 tm] ∧ Bk w' F 4 #[.bool true] ∧ Bk w' R 38 Pg.zero.cs ∧ Below w.heap.size w w' ∧ hitP (ch.getD i 0) (pg (ch.getD i 0)) id)
    HN.out (fun i w' h => h.1)
    (fun i w' w'' h hb => ⟨h.1.kept hb, Nat.le_trans h.2.1 hb.size, h.2.2.1.kept hb, h.2.2.2.1.kept hb, h.2.2.2.2.1.kept hb, h.2.2.2.2.2.1.elim fun p0 hp => ⟨p0, hp.kept hb⟩, h.2.2.2.2.2.2.1.kept hb, below_then h.2.2.2.2.2.2.2.1 hb h.2.2.2.2.2.2.2.1.size, h.2.2.2.2.2.2.2.2⟩)
    (fun i w' hi h => by
      obtain ⟨h1, h2, h3, h4, h5, ⟨p0, h6⟩, h7, h8, h9⟩ := h
      refine (visit_seek (ch.getD i 0) (pg (ch.getD i 0)) p0 id HID.out A I S F false w' h6 h3 (by rw [← TM.out]; exact h4) h5).mono ?_
      rintro e w'' ⟨rfl, k1, k2, w1, g1, g2⟩
      have far : ∀ q t cs, Bk w' q t cs → q ≠ A → q ≠ F → Bk w'' q t cs := fun q t cs hk hqa hqf => (hk.grown g1 (fun e => hqa (by injection e))).grown g2 (fun e => hqf (by injection e))
      have hsz : w'.heap.size ≤ w''.heap.size := Nat.le_trans g1.size g2.size
      have hS := SZ.out
      refine ⟨?_, fun q cs hq hk => far q _ cs hk (by omega) (by omega)⟩
      by_cases hh : hitP (ch.getD i 0) (pg (ch.getD i 0)) id
      · right
        rw [decide_eq_true hh] at k2 ⊢
        exact ⟨rfl, k1, far _ _ _ h4 (by omega) (by omega), k2, far _ _ _ h7 (by omega) (by omega), bl_grow (bl_grow h8 g1 (fun j hj => by cases hj; omega) h8.size) g2 (fun j hj => by cases hj; omega) (Nat.le_trans h8.size g1.size), hh⟩
      · left
        rw [decide_eq_false hh] at k2 ⊢
        exact ⟨rfl, h1.far g1 g2 NEA.out NEF.out, Nat.le_trans h2 hsz, far _ _ _ h3 (by omega) (by omega), far _ _ _ h4 (by omega) (by omega), k2, ⟨_, k1⟩, far _ _ _ h7 (by omega) (by omega), bl_grow (bl_grow h8 g1 (fun j hj => by cases hj; omega) h8.size) g2 (fun j hj => by cases hj; omega) (Nat.le_trans h8.size g1.size), fun q hq => by
          by_cases e : q = i
          · rw [e]; exact hh
          · exact h9 q (by omega)⟩)
    (fun i w' h => h.2.1)
    ⟨V5.out, Nat.le_refl _, KI.out, KS.out, KF.out, ⟨_, KA.out⟩, KR.out, B5.out, fun q hq => absurd hq (Nat.not_lt_zero q)⟩)
  as_aux_lemma =>
    go_wp2_with fail
    refine CW.out.mono ?_
    rintro e w6 ⟨rfl, ⟨h1, h2, h3, h4, h5, ⟨p0, h6⟩, h7, h8, h9⟩ | ⟨i, hi, k1, k2, k3, k4, k5, k6⟩⟩
    · have f0 : w6.cell? ⟨F, 0, none⟩ = some (.bool false) := h5.cell 0
      have R6 := Lib.hid h7
      have B6 := Lib.hid h8
      have NR := Lib.hid (show ¬ rcP L id from fun hr => by
        obtain ⟨i, hi, hh⟩ := rc_hit HC.out hr
        exact h9 i hi hh)
      have BR := Lib.hid (below_row (cs := Pg.zero.cs) h8 (show w.heap.size ≤ R by have := SZ.out; omega))
      clear h1 h2 h3 h4 h5 h6 h7 h8 h9 CW V5 B5 KI KR KA KS KF
      go_wp2_with (first | (refine build_pg0 rfl rfl ?_) | (refine store_page rfl _ _ rfl R Pg.zero Pg.zero rfl rfl R6.out ?_))
      refine bodyPost_ret (page_ctt rfl _ _ R Pg.zero.cs (row_bk R6.out) rfl rfl) rfl ?_
      exact NO.out _ NR.out BR.out
    · have f0 : w6.cell? ⟨F, 0, none⟩ = some (.bool true) := k3.cell 0
      obtain ⟨p, s, hs6, hid, hp, hts, hst⟩ := hit_rc HC.out hi k6
      have ts : tm = (s : Int) := by rw [TM.out, hid, Int.tmod_eq_emod_of_nonneg (by omega)]; omega
      rw [ts] at k2
      have S6 := Lib.hid k2
      have NR := Lib.hid (show A ≠ R ∧ S ≠ R by have := SZ.out; omega)
      rw [← hp] at k1
      have A6 := Lib.hid k1
      have R6 := Lib.hid k4
      have B6 := Lib.hid k5
      have FIN := Lib.hid (YES.out · p s hs6 hid (by rw [hp]; exact getD_mem hi) hst)
      have BR := Lib.hid (below_row (cs := (pg p).cs) k5 (show w.heap.size ≤ R by have := SZ.out; omega))
      clear k1 k2 k3 k4 k5 k6 CW V5 B5 KI KR KA KS KF hid hts hst hp
      generalize pg p = pp at *
      go_upto_region 8 with fail
      refine wp_region_held (S := fun w' => Bk w' A 38 pp.cs ∧ Bk w' S 3 #[.int .i64 s]) (by kernel_rfl) ?_
      refine held_take (fuel := 4) (i := 0) 29 rfl rfl (by kernel_rfl) (by kernel_rfl) (by kernel_rfl) (fun _ _ _ h => h) (held_page _ rfl (by kernel_rfl) A pp rfl (fun w h => h.1)) ⟨A6.out.drew, S6.out.drew⟩ ?_
      refine held_take (fuel := 3) (i := 1) 30 rfl rfl (by kernel_rfl) (by kernel_rfl) (by kernel_rfl) (fun _ _ _ h => h) (held_int _ rfl (by kernel_rfl) S s rfl (fun w h => h.2)) ⟨A6.out.drew, S6.out.drew⟩ ?_
      simp only [Act.put, List.setIfInBounds_toArray, List.set_cons_succ, List.set_cons_zero]
      refine wpAnyH_all (fuel := 2) (rs := [2]) (by kernel_rfl) (by decide) ?_
      intro i hi
      obtain rfl : i = 2 := by simpa using hi
      refine held_store rfl _ _ rfl rfl (by kernel_rfl) R pp Pg.zero rfl rfl R6.out.drew ⟨⟨row_far A6.out.drew NR.out.1, row_far S6.out.drew NR.out.2⟩, ?_⟩
      refine held_take (fuel := 1) (i := 3) 7 rfl rfl (by kernel_rfl) (by kernel_rfl) (by kernel_rfl) (fun _ _ _ h => h) (held_assign _ rfl (by kernel_rfl)) ⟨row_far A6.out.drew NR.out.1, row_far S6.out.drew NR.out.2⟩ ?_
      refine held_take (fuel := 0) (i := 4) 8 rfl rfl (by kernel_rfl) (by kernel_rfl) (by kernel_rfl) (fun _ _ _ h => h) (held_assign _ rfl (by kernel_rfl)) ⟨row_far A6.out.drew NR.out.1, row_far S6.out.drew NR.out.2⟩ ?_
      refine wpAnyH_done (by kernel_rfl) ?_ _
      simp only [Act.put, Act.eval, List.setIfInBounds_toArray, List.set_cons_succ, List.set_cons_zero]
      generalize hW : World.setRow _ R pp.cs = wF
      have BD := Lib.hid (show Below w.heap.size w wF by rw [← hW]; exact BR.out.drew)
      have RD := Lib.hid (show Bk wF R 38 pp.cs by rw [← hW]; exact row_bk R6.out.drew)
      clear hW
      go_wp2
      refine bodyPost_ret (page_ctt rfl _ _ R pp.cs RD.out rfl rfl) rfl ?_
      exact FIN.out _ BD.out
end Go.Proofs.YtelbioooggnbiaaGreat
namespace Go.Proofs.YtelbioooggnbiaaGreat
open Go.RowKit Go.Maps
variable [Fr]

def ReadPost (w : World) (L : Nat → Nat → Ce) (id : Int) (e : Ending) (w' : World) : Prop :=
  ((rcP L id ∧ e = .returned (.tuple #[.string (L (id.toNat / 8) (id.toNat % 8)).d, .int .i64 0])) ∨ (¬ rcP L id ∧ e = .returned (.tuple #[.string ⟨#[]⟩, .int .i64 150]))) ∧ Below w.heap.size w w'
section
variable {ops : Array Oper} {rest : List Oper} {o : Oper} {a : Act} {w : World} {Q : Exit → Act → World → Prop}
end
set_option maxRecDepth 100000 in
set_option maxHeartbeats 8000000 in
theorem change_any {w : World} {B g b gs r N M : Nat} {und pg : Nat → Pg} (h : SV w B g b gs r N M und pg) (id : Nat) (hid : id < N) (s : Nat) (hs : s < 6) (p : Pg) (hp : p.ok) (c : Ce) (hc : c.ok) (hM : M < maxLen) :
    Calls Tryz.prog 49 #[.pointer (some ⟨g, 0, none⟩), .int .i64 id, .int .i64 s, .agg p.cs, .agg #[.int .i64 c.st, .string c.d]] w fun e w' =>
      e = .returned (.tuple #[.agg (udC id s (p.c s)).cs, .int .i64 0]) ∧ SV w' B g b gs r N (M + 1) und (upd pg id (putC p s c)) ∧ w.grownBy w' (some b) := by
  have HV := Lib.hid h
  have NEG := Lib.hid h.gs_ne
  have CS := Lib.hid (fun (w' : World) (hs : SV w' B g b gs r N M und pg) => sv_set hs id hid (putC p s c) (putC_ok2 hp s c hc) hM)
  have H6 := Lib.hid hs
  have s6 : (s : Int) < 6 := by omega
  clear h hid hp hc hM
  go_enter Tryz.func49, Tryz.ntmps49
  go_upto_region 1 with fail
  change Code.wp _ _ _ _ (((w.alloc (.cells p.cs 38)).alloc (.cells #[.int .i64 c.st, .string c.d] 35)).alloc (.cells ud0.cs 72))
  have KP := Lib.hid (((Bk.new w 38 p.cs).alloc (.cells #[.int .i64 c.st, .string c.d] 35)).alloc (.cells ud0.cs 72))
  have KC := Lib.hid ((Bk.new2 w (.cells p.cs 38) 35 #[.int .i64 c.st, .string c.d]).alloc (.cells ud0.cs 72))
  have KU := Lib.hid (Bk.new3 w (.cells p.cs 38) (.cells #[.int .i64 c.st, .string c.d] 35) 72 ud0.cs)
  have V1 := Lib.hid (((HV.out.alloc (.cells p.cs 38)).alloc (.cells #[.int .i64 c.st, .string c.d] 35)).alloc (.cells ud0.cs 72))
  have G1 := Lib.hid (only_alloc (only_alloc (World.grownBy_alloc w (.cells p.cs 38) (some b)) (.cells #[.int .i64 c.st, .string c.d] 35)) (.cells ud0.cs 72))
  obtain ⟨w1, hw1⟩ : ∃ w1, w1 = (((w.alloc (.cells p.cs 38)).alloc (.cells #[.int .i64 c.st, .string c.d] 35)).alloc (.cells ud0.cs 72)) := ⟨_, rfl⟩
  rw [← hw1] at KP KC KU V1 G1 ⊢
  clear hw1
  obtain ⟨U, hU⟩ : ∃ U, U = w.heap.size + 1 + 1 := ⟨_, rfl⟩
  rw [← hU] at KU ⊢
  obtain ⟨C, hC⟩ : ∃ C, C = w.heap.size + 1 := ⟨_, rfl⟩
  rw [← hC] at KC ⊢
  obtain ⟨P, hP⟩ : ∃ P, P = w.heap.size := ⟨_, rfl⟩
  rw [← hP] at KP ⊢
  have SZ := Lib.hid (show P = w.heap.size ∧ C = w.heap.size + 1 ∧ U = w.heap.size + 1 + 1 from ⟨hP, hC, hU⟩)
  clear hU hC hP HV
  obtain ⟨V, hVV⟩ : ∃ V, V = w1.heap.size := ⟨_, rfl⟩
  have KV := Lib.hid (Bk.new w1 72 (udC id s (p.c s)).cs)
  have KP2 := Lib.hid (KP.out.alloc (.cells (udC id s (p.c s)).cs 72))
  have KC2 := Lib.hid (KC.out.alloc (.cells (udC id s (p.c s)).cs 72))
  have KU2 := Lib.hid (KU.out.alloc (.cells (udC id s (p.c s)).cs 72))
  have V2 := Lib.hid (V1.out.alloc (.cells (udC id s (p.c s)).cs 72))
  have G2 := Lib.hid (only_alloc G1.out (.cells (udC id s (p.c s)).cs 72))
  have VZ := Lib.hid (show w.heap.size ≤ V ∧ U < V ∧ P < V by have := KU.out.lt; have := SZ.out; have := G1.out.size; omega)
  rw [← hVV] at KV
  as_aux_lemma =>
    go_upto_region 2 with (first | (refine load_cell_at rfl _ rfl P p s H6.out rfl KP.out ?_) | (refine build_udC rfl _ _ _ rfl id s (p.c s) rfl rfl rfl ?_) | (refine store_ud_new rfl _ _ rfl (udC id s (p.c s)) rfl rfl ?_; rw [← hVV]; clear hVV; generalize w1.alloc (.cells (udC id s (p.c s)).cs 72) = w2 at *))
    clear KP KC KU V1 G1
    have KP3 := Lib.hid (putRow p s H6.out c.st c.d KP2.out)
    have KU3 := Lib.hid (show Bk (w2.setCells P (4 + s * 2) [.int .i64 c.st, .string c.d]) U 72 ud0.cs from KU2.out.grown (setCells_only w2 P (4 + s * 2) _) (fun e => by have := SZ.out; injection e with e; omega))
    have KV3 := Lib.hid (show Bk (w2.setCells P (4 + s * 2) [.int .i64 c.st, .string c.d]) V 72 (udC id s (p.c s)).cs from KV.out.grown (setCells_only w2 P (4 + s * 2) _) (fun e => by have := VZ.out; injection e with e; omega))
    have V3 := Lib.hid (V2.out.grown (setCells_only w2 P (4 + s * 2) [.int .i64 c.st, .string c.d]) (fun k hk => by cases hk; have := SZ.out; have := NEG.out; omega))
    have G3 := Lib.hid (only_setCells G2.out (show w.heap.size ≤ P by have := SZ.out; omega) (4 + s * 2) [.int .i64 c.st, .string c.d])
    as_aux_lemma =>
      go_upto_region 3 with (first | (refine load_ce rfl _ rfl C c.st c.d rfl KC2.out ?_) | (refine store_cell_at rfl _ _ rfl P p s H6.out c.st c.d rfl rfl KP2.out ?_; generalize w2.setCells P (4 + s * 2) [.int .i64 c.st, .string c.d] = w3 at *))
      clear KP2 KC2 KU2 V2 G2 KV
      have CS2 := Lib.hid (CS.out w3 V3.out)
      as_aux_lemma =>
        go_wp2_with (refine load_page rfl _ rfl P (putC p s c) rfl KP3.out ?_)
        refine CS2.out.mono ?_
        rintro e w4 ⟨rfl, hsv, hg⟩
        have V4 := Lib.hid hsv
        have G4 := Lib.hid (only_trans G3.out hg)
        have KU4 := Lib.hid (KU3.out.grown hg (fun e => by have := SZ.out; have := NEG.out; injection e with e; omega))
        have KV4 := Lib.hid (KV3.out.grown hg (fun e => by have := VZ.out; have := NEG.out; injection e with e; omega))
        have V5 := Lib.hid (show SV (w4.setRow U (udC id s (p.c s)).cs) B g b gs r N (M + 1) und (upd pg id (putC p s c)) from V4.out.grown (row := some U) (only_row w4 U _) (fun k hk => by cases hk; have := SZ.out; have := NEG.out; omega))
        have G5 := Lib.hid (only_setRow G4.out (show w.heap.size ≤ U by have := SZ.out; omega) (udC id s (p.c s)).cs)
        have KU5 := Lib.hid (ud_bk (p := udC id s (p.c s)) KU4.out)
        clear hsv hg KP3 KU3 KV3 V3 G3 CS CS2
        as_aux_lemma =>
          go_wp2_with (first | (refine load_ud rfl _ rfl V (udC id s (p.c s)) rfl KV4.out ?_) | (refine store_ud rfl _ _ rfl U (udC id s (p.c s)) ud0 rfl rfl KU4.out ?_; generalize w4.setRow U (udC id s (p.c s)).cs = w5 at *))
          refine bodyPost_ret (ud_ct rfl _ _ U (udC id s (p.c s)) KU5.out rfl) rfl ?_
          exact ⟨rfl, V5.out, G5.out⟩
end Go.Proofs.YtelbioooggnbiaaGreat
namespace Go.Proofs.YtelbioooggnbiaaGreat
open Go.RowKit Go.Maps
variable [Fr]

def ChPost (w : World) (B g b gs r N M n : Nat) (und : Nat → Pg) (ch : List Nat) (L : Nat → Nat → Ce) (id : Int) (new : Ce → Ce) (e : Ending) (w' : World) : Prop :=
  (¬ rcP L id ∧ e = .returned (.tuple #[.agg ud0.cs, .int .i64 150]) ∧ Below w.heap.size w w') ∨
  (∃ p s : Nat, s < 6 ∧ id = (p : Int) * 8 + (s : Int) ∧ p ∈ ch ∧ (L p s).st = 1 ∧ e = .returned (.tuple #[.agg (udC p s (L p s)).cs, .int .i64 0]) ∧ ∃ pg', SV w' B g b gs r N (M + 1) und pg' ∧ Hc pg' n ch (putL L p s (new (L p s))) ∧ w.grownBy w' (some b))
section
variable {ops : Array Oper} {rest : List Oper} {o : Oper} {a : Act} {w : World} {Q : Exit → Act → World → Prop}
end
theorem div8 {p s : Nat} (hs : s < 6) (h : (p : Int) * 8 + (s : Int) ≤ 9223372036854775807) : ((p : Int) * 8 + (s : Int)).tdiv 8 = (p : Int) ∧ wrap64 (p : Int) = (p : Int) := by
  rw [Int.tdiv_eq_ediv_of_nonneg (by omega)]
  exact ⟨by omega, by unfold wrap64; omega⟩
end Go.Proofs.YtelbioooggnbiaaGreat
namespace Go.Proofs.YtelbioooggnbiaaGreat
open Go.RowKit Go.Maps
variable [Fr]

set_option maxRecDepth 100000 in
set_option maxHeartbeats 8000000 in
theorem delete_any {w : World} {B g b gs r N M n : Nat} {und pg : Nat → Pg} {ch : List Nat} {L : Nat → Nat → Ce} (h : SV w B g b gs r N M und pg) (hn : n ≤ N) (hc : Hc pg n ch L) (hM : M < maxLen) (id : Int) (hid : -9223372036854775808 ≤ id ∧ id ≤ 9223372036854775807) :
    Calls Tryz.prog 25 #[.pointer (some ⟨g, 0, none⟩), .int .i64 1, .int .i64 id] w fun e w' =>
      ChPost w B g b gs r N M n und ch L id (fun c => ⟨2, c.d⟩) e w' := by
  have HC := Lib.hid hc; have HN := Lib.hid hn; have HM := Lib.hid hM; have HI := Lib.hid hid
  have NEG := Lib.hid h.gs_ne
  obtain ⟨R, hR⟩ : ∃ R, R = w.heap.size := ⟨_, rfl⟩
  have KR := Lib.hid (Bk.new w 72 ud0.cs)
  have V1 := Lib.hid (h.alloc (.cells ud0.cs 72))
  have G1 := Lib.hid (World.grownBy_alloc w (.cells ud0.cs 72) none)
  rw [← hR] at KR
  have SZ := Lib.hid hR
  clear h hc hn hM hid
  go_enter Tryz.func25, Tryz.ntmps25
  go_upto_region 1 with fail
  rw [← hR]
  change Code.wp _ _ _ _ (w.alloc (.cells ud0.cs 72))
  generalize w.alloc (.cells ud0.cs 72) = w1 at *
  clear hR
  have CS := Lib.hid (seek_any V1.out HN.out HC.out id HI.out)
  as_aux_lemma =>
    go_wp2_with fail
    refine CS.out.mono ?_
    rintro e w2 ⟨⟨p, s, h1, h2, h3, h4, rfl⟩ | ⟨hx, rfl⟩, hb⟩
    · have hbb := hb.alloc hb.size (.cells (pg p).cs 38)
      have G2 := Lib.hid (only_trans G1.out (only_below hbb none))
      have V2 := Lib.hid (V1.out.kept hbb)
      have KR2 := Lib.hid (KR.out.kept hbb)
      have KG := Lib.hid (Bk.new w2 38 (pg p).cs)
      obtain ⟨G, hG⟩ : ∃ G, G = w2.heap.size := ⟨_, rfl⟩
      rw [← hG] at KG
      have GB := Lib.hid (show G ≠ b by have := NEG.out; have := hb.size; have := G1.out.size; omega)
      have GR := Lib.hid (show G ≠ R by have := KR.out.lt; have := hb.size; omega)
      have H4 := Lib.hid (show s < 6 ∧ p ∈ ch ∧ (L p s).st = 1 from ⟨h1, h3, h4⟩)
      obtain ⟨hd, hw⟩ := div8 (p := p) h1 (by have := HI.out; omega)
      have PM := HC.out.mem h3
      have PO := (HC.out.page _ (mem_getD h3).choose_spec.1).2.2.2.2.2
      rw [(mem_getD h3).choose_spec.2] at PO
      have CC := Lib.hid (fun (w' : World) (hs : SV w' B g b gs r N M und pg) => change_any hs p (by have := HN.out; omega) s h1 (pg p) PO ⟨2, ((pg p).c s).d⟩ (ce_ghost (PO.2 s h1)) HM.out)
      subst h2
      clear hb hbb CS V1 G1 KR h1 h3 h4 PM PO
      obtain ⟨pp, hpp⟩ : ∃ pp, pp = pg p := ⟨_, rfl⟩
      have HPP := Lib.hid hpp
      rw [← hpp] at KG V2 KR2 G2 CC ⊢
      clear hpp
      dsimp only
      as_aux_lemma =>
        go_upto_region 4 with (refine store_page_new rfl _ _ rfl pp rfl rfl ?_; rw [← hG]; clear hG; generalize w2.alloc (.cells pp.cs 38) = w3 at *)
        have X0 := Lib.hid (fun (wx : World) (hx : Bk wx G 38 pp.cs) => show wx.cell? ⟨G, 4 + s * 2 + 1, none⟩ = some (.string (pp.c s).d) by
          rw [hx.cell]; rcases six H4.out.1 with h | h | h | h | h | h <;> rw [h] <;> rfl)
        have s6 : (s : Int) < 6 := by have := H4.out.1; omega
        have WR := Lib.hid (show IntKind.i64.wrap (p : Int) = (p : Int) by have := HI.out; simp [IntKind.wrap, IntKind.bits, IntKind.signed]; omega)
        have CC2 := Lib.hid (CC.out w3.drew V2.out.drew)
        refine wp_region_held (S := fun w' => Bk w' G 38 pp.cs) (by kernel_rfl) ?_
        refine held_take (fuel := 15) (i := 0) 23 rfl rfl (by kernel_rfl) (by kernel_rfl) (by kernel_rfl) (fun _ _ _ h => h) (held_move _ rfl (by kernel_rfl)) KG.out.drew ?_
        refine held_take (fuel := 14) (i := 1) 24 rfl rfl (by kernel_rfl) (by kernel_rfl) (by kernel_rfl) (fun _ _ _ h => h) (held_move _ rfl (by kernel_rfl)) KG.out.drew ?_
        simp only [Act.put, Act.eval, List.setIfInBounds_toArray, List.set_cons_succ, List.set_cons_zero]
        refine held_take (fuel := 13) (i := 2) (v := .int .i64 p) 25 rfl rfl (by kernel_rfl) (by kernel_rfl) (by kernel_rfl) (fun _ _ _ h => h) (by refine .inl ⟨by kernel_rfl, fun wx hx => ?_⟩; unfold execOp; go_simp; exact WR.out) KG.out.drew ?_
        refine held_take (fuel := 12) (i := 3) 26 rfl rfl (by kernel_rfl) (by kernel_rfl) (by kernel_rfl) (fun _ _ _ h => h) (held_move _ rfl (by kernel_rfl)) KG.out.drew ?_
        refine held_take (fuel := 11) (i := 4) 27 rfl rfl (by kernel_rfl) (by kernel_rfl) (by kernel_rfl) (fun _ _ _ h => h) (held_page _ rfl (by kernel_rfl) G pp rfl (fun w h => h)) KG.out.drew ?_
        refine held_take (fuel := 10) (i := 5) 28 rfl rfl (by kernel_rfl) (by kernel_rfl) (by kernel_rfl) (fun _ _ _ h => h) (held_move _ rfl (by kernel_rfl)) KG.out.drew ?_
        simp only [Act.put, Act.eval, List.setIfInBounds_toArray, List.set_cons_succ, List.set_cons_zero]
        refine held_take (fuel := 9) (i := 6) (v := .pointer (some ⟨G, 4, none⟩)) 29 rfl rfl (by kernel_rfl) (by kernel_rfl) (by kernel_rfl) (fun _ _ _ h => h) (by refine .inl ⟨by kernel_rfl, fun wx hx => ?_⟩; unfold execOp; go_simp) KG.out.drew ?_
        refine held_take (fuel := 8) (i := 7) (v := .pointer (some ⟨G, 4 + s * 2, none⟩)) 30 rfl rfl (by kernel_rfl) (by kernel_rfl) (by kernel_rfl) (fun _ _ _ h => h) (by refine .inl ⟨by kernel_rfl, fun wx hx => ?_⟩; unfold execOp; go_simp) KG.out.drew ?_
        refine held_take (fuel := 7) (i := 8) (v := .pointer (some ⟨G, 4 + s * 2 + 1, none⟩)) 31 rfl rfl (by kernel_rfl) (by kernel_rfl) (by kernel_rfl) (fun _ _ _ h => h) (by refine .inl ⟨by kernel_rfl, fun wx hx => ?_⟩; unfold execOp; go_simp) KG.out.drew ?_
        refine held_take (fuel := 6) (i := 9) (v := .string (pp.c s).d) 32 rfl rfl (by kernel_rfl) (by kernel_rfl) (by kernel_rfl) (fun _ _ _ h => h) (by refine .inl ⟨by kernel_rfl, fun wx hx => ?_⟩; have y0 := X0.out wx hx; unfold execOp; go_simp) KG.out.drew ?_
        refine held_take (fuel := 5) (i := 10) (v := .agg #[.int .i64 2, .string (pp.c s).d]) 33 rfl rfl (by kernel_rfl) (by kernel_rfl) (by kernel_rfl) (fun _ _ _ h => h) (by refine .inl ⟨by kernel_rfl, fun wx hx => ?_⟩; unfold execOp; go_simp) KG.out.drew ?_
        simp only [Act.put, Act.eval, List.setIfInBounds_toArray, List.set_cons_succ, List.set_cons_zero]
        refine held_ready (fuel := 4) 11 (by kernel_rfl) ?_
        refine held_call rfl (by kernel_rfl) 34 rfl 49 #[.pointer (some ⟨g, 0, none⟩), .int .i64 p, .int .i64 s, .agg pp.cs, .agg #[.int .i64 2, .string (pp.c s).d]] (by kernel_rfl) ?_
        refine CC2.out.mono ?_
        rintro e w4 ⟨rfl, hsv, hg⟩
        have KG4 := Lib.hid (KG.out.drew.grown hg (fun e => GB.out (by injection e)))
        have V4 := Lib.hid hsv
        have KR4 := Lib.hid (KR2.out.drew.grown hg (fun e => by have := SZ.out; have := NEG.out; injection e with e; omega))
        have G4 := Lib.hid (only_trans (only_drew (World.grownBy.but G2.out (some b))) hg)
        have V5 := Lib.hid (show SV (w4.setRow R (udC p s (pp.c s)).cs) B g b gs r N (M + 1) und (upd pg p (putC pp s ⟨2, (pp.c s).d⟩)) from V4.out.grown (row := some R) (only_row w4 R _) (fun k hk => by cases hk; have := SZ.out; have := NEG.out; omega))
        have G5 := Lib.hid (only_setRow G4.out (show w.heap.size ≤ R by have := SZ.out; omega) (udC p s (pp.c s)).cs)
        have KR5 := Lib.hid (ud_bk (p := udC p s (pp.c s)) KR4.out)
        clear hsv hg V4 G4 CC CC2 V2 G2 KR2 KG
        refine ⟨_, rfl, KG4.out, ?_⟩
        simp only [Act.put, Act.eval, List.setIfInBounds_toArray, List.set_cons_succ, List.set_cons_zero]
        refine held_take (fuel := 3) (i := 12) (v := .agg (udC p s (pp.c s)).cs) 35 rfl rfl (by kernel_rfl) (by kernel_rfl) (by kernel_rfl) (fun _ _ _ h => h) (by refine .inl ⟨by kernel_rfl, fun wx hx => ?_⟩; unfold execOp; go_simp) KG4.out ?_
        refine held_take (fuel := 2) (i := 13) (v := .int .i64 0) 36 rfl rfl (by kernel_rfl) (by kernel_rfl) (by kernel_rfl) (fun _ _ _ h => h) (by refine .inl ⟨by kernel_rfl, fun wx hx => ?_⟩; unfold execOp; go_simp) KG4.out ?_
        simp only [Act.put, Act.eval, List.setIfInBounds_toArray, List.set_cons_succ, List.set_cons_zero]
        refine held_ready (fuel := 1) 14 (by kernel_rfl) ?_
        refine held_store_ud rfl _ _ rfl rfl (by kernel_rfl) R (udC p s (pp.c s)) ud0 rfl rfl KR4.out ⟨KG4.out.grown (only_row w4 R _) (fun e => GR.out (by injection e)), ?_⟩
        refine held_take (fuel := 0) (i := 15) 7 rfl rfl (by kernel_rfl) (by kernel_rfl) (by kernel_rfl) (fun _ _ _ h => h) (held_assign _ rfl (by kernel_rfl)) (KG4.out.grown (only_row w4 R _) (fun e => GR.out (by injection e))) ?_
        refine wpAnyH_done (by kernel_rfl) ?_ _
        simp only [Act.put, Act.eval, List.setIfInBounds_toArray, List.set_cons_succ, List.set_cons_zero]
        generalize w4.setRow R (udC p s (pp.c s)).cs = w5 at *
        go_wp2
        refine bodyPost_ret (ud_ct rfl _ _ R (udC p s (pp.c s)) KR5.out rfl) rfl ?_
        refine .inr ⟨p, s, H4.out.1, rfl, H4.out.2.1, H4.out.2.2, ?_, _, V5.out, ?_, G5.out⟩
        · rw [HPP.out, HC.out.cell H4.out.2.1 H4.out.1]; rfl
        · rw [HPP.out]
          have hce := HC.out.cell H4.out.2.1 H4.out.1
          rw [hce]
          refine HC.out.lay H4.out.2.1 H4.out.1 _ (ce_ghost ?_)
          rw [← hce]
          have PO := (HC.out.page _ (mem_getD H4.out.2.1).choose_spec.1).2.2.2.2.2
          rw [(mem_getD H4.out.2.1).choose_spec.2] at PO
          exact PO.2 s H4.out.1
    · have hbb := hb.alloc hb.size (.cells Pg.zero.cs 38)
      have G2 := Lib.hid (only_trans G1.out (only_below hbb none))
      have KR2 := Lib.hid (KR.out.kept hbb)
      have KR3 := Lib.hid (ud_bk (p := ud0) KR2.out)
      have B3 := Lib.hid (below_only (only_setRow G2.out (show w.heap.size ≤ R by have := SZ.out; omega) ud0.cs))
      have NX := Lib.hid hx
      clear hb hbb CS V1 G1 KR hx
      dsimp only
      as_aux_lemma =>
        go_upto_region 2 with (refine store_page_new rfl _ _ rfl Pg.zero rfl rfl ?_; generalize w2.alloc (.cells Pg.zero.cs 38) = w3 at *)
        go_wp2_with (first | (refine build_ud0 rfl rfl ?_) | (refine store_ud rfl _ _ rfl R ud0 ud0 rfl rfl KR2.out ?_; generalize w3.setRow R ud0.cs = w4 at *))
        refine bodyPost_ret (ud_ct rfl _ _ R ud0 KR3.out rfl) rfl ?_
        exact .inl ⟨NX.out, rfl, B3.out⟩
end Go.Proofs.YtelbioooggnbiaaGreat
namespace Go.Proofs.YtelbioooggnbiaaGreat
open Go.RowKit Go.Maps
variable [Fr]

section
variable {ops : Array Oper} {rest : List Oper} {o : Oper} {a : Act} {w : World} {Q : Exit → Act → World → Prop}
theorem ud_range {w : World} {g : Nat} {p s : Int} {c : Ce} (h : Bk w g 72 (udC p s c).cs) : w.rangeAt g 5 [.int .i64 c.st, .string c.d] := fun i v hv => by
  have hi : i < 2 := (List.getElem?_eq_some_iff.1 hv).1
  rw [h.cell]
  rcases (show i = 0 ∨ i = 1 by omega) with e | e <;> subst e <;> simp at hv <;> subst hv <;> rfl
theorem load_udc (hgd : o.guard = none) (x : Operand) (ho : o.op = .load 35 x) (g : Nat) (p s : Int) (c : Ce) (hx : a.eval x = .pointer (some ⟨g, 5, none⟩)) (hb : Bk w g 72 (udC p s c).cs)
    (h : wpList Tryz.prog ops Q rest (a.put o.dst (.agg #[.int .i64 c.st, .string c.d])) w) : wpList Tryz.prog ops Q (o :: rest) a w :=
  wpList_load_mid hgd 35 x ho g 5 hx [.int .i64 c.st, .string c.d] _ (ud_range hb) Tryz.underlying35 rfl (by show _ = some 2; kernel_rfl) (by simpa using h)
end
end Go.Proofs.YtelbioooggnbiaaGreat
namespace Go.Proofs.YtelbioooggnbiaaGreat
open Go.RowKit Go.Maps
variable [Fr]

def lastOf (ch : List Nat) : Nat := ch.getD (ch.length - 1) 0
theorem Hc.last {pg : Nat → Pg} {n : Nat} {ch : List Nat} {L : Nat → Nat → Ce} (h : Hc pg n ch L) : lastOf ch ∈ ch ∧ lastOf ch < n ∧ (pg (lastOf ch)).ok := by
  have hl := h.len
  have := h.page (ch.length - 1) (by omega)
  exact ⟨getD_mem (by omega), this.2.1, this.2.2.2.2.2⟩
def GrowPost (w : World) (B g b gs r N M n : Nat) (und : Nat → Pg) (ch : List Nat) (L : Nat → Nat → Ce) (e : Ending) (w' : World) : Prop :=
  (e = .returned (.tuple #[.int .i64 0, .agg Pg.zero.cs, .int .i64 140]) ∧ True ∧ Below w.heap.size w w') ∨
  (∃ (id : Nat) (pg' : Nat → Pg), e = .returned (.tuple #[.int .i64 id, .agg pgK3.cs, .int .i64 0]) ∧ id < n ∧ SV w' B g b gs r N (M + 3) und pg' ∧ Hc pg' n (ch ++ [id]) L ∧ pg' id = pgK3 ∧ w.grownBy w' (some b))
theorem nextRow (p : Pg) (x : Int) : p.cs.setIfInBounds 3 (.int .i64 x) = (nextOf p x).cs := rfl
set_option maxRecDepth 100000 in
set_option maxHeartbeats 8000000 in
theorem grow_any {w : World} {B g b gs r N M n : Nat} {und pg : Nat → Pg} {ch : List Nat} {L : Nat → Nat → Ce} (h : SV w B g b gs r N M und pg) (hn : n ≤ N) (hc : Hc pg n ch L) (hM : M + 2 < maxLen) :
    Calls Tryz.prog 48 #[.pointer (some ⟨g, 0, none⟩), .int .i64 1, .int .i64 (lastOf ch : Nat), .agg (pg (lastOf ch)).cs] w (GrowPost w B g b gs r N M n und ch L) := by
  have NEG := Lib.hid h.gs_ne
  have LA := Lib.hid hc.last
  have HC := Lib.hid hc
  obtain ⟨st, kd, rt, ow, hv, hp, hst, hkd, hrt⟩ := hc.ex
  have HV := Lib.hid hv; have HP := Lib.hid hp; have HST := Lib.hid hst; have HKD := Lib.hid hkd; have HRT := Lib.hid hrt
  have HN := Lib.hid hn; have HM := Lib.hid hM
  have LN := Lib.hid hc.len
  obtain ⟨la, hla⟩ : ∃ la, la = lastOf ch := ⟨_, rfl⟩
  obtain ⟨pp, hpp⟩ : ∃ pp, pp = pg (lastOf ch) := ⟨_, rfl⟩
  have HLA := Lib.hid hla; have HPP := Lib.hid hpp
  rw [← hpp, ← hla]
  have V0 := Lib.hid h
  clear h hn hc hM hv hp hst hkd hrt hla hpp
  go_enter Tryz.func48, Tryz.ntmps48
  go_upto_region 1 with fail
  change Code.wp _ _ _ _ ((w.alloc (.cells pp.cs 38)).alloc (.cells Pg.zero.cs 38))
  have KP := Lib.hid ((Bk.new w 38 pp.cs).alloc (.cells Pg.zero.cs 38))
  have KR := Lib.hid (Bk.new2 w (.cells pp.cs 38) 38 Pg.zero.cs)
  have V1 := Lib.hid ((V0.out.alloc (.cells pp.cs 38)).alloc (.cells Pg.zero.cs 38))
  have G1 := Lib.hid (only_alloc (World.grownBy_alloc w (.cells pp.cs 38) none) (.cells Pg.zero.cs 38))
  obtain ⟨w1, hw1⟩ : ∃ w1, w1 = ((w.alloc (.cells pp.cs 38)).alloc (.cells Pg.zero.cs 38)) := ⟨_, rfl⟩
  rw [← hw1] at KP KR V1 G1 ⊢
  clear hw1 V0
  obtain ⟨R, hR⟩ : ∃ R, R = w.heap.size + 1 := ⟨_, rfl⟩
  rw [← hR] at KR ⊢
  obtain ⟨P, hP⟩ : ∃ P, P = w.heap.size := ⟨_, rfl⟩
  rw [← hP] at KP ⊢
  have SZ := Lib.hid (show P = w.heap.size ∧ R = w.heap.size + 1 from ⟨hP, hR⟩)
  clear hR hP
  have CT := Lib.hid (take_good V1.out (by have := LN.out; have := HN.out; omega) HV.out.m (by have := HM.out; omega))
  as_aux_lemma =>
    go_wp2_with fail
    refine CT.out.mono ?_
    rintro e w2 (⟨hfull, rfl, hb⟩ | ⟨id, hid, ho, ha, rfl, hsv, hg⟩)
    · have FL := Lib.hid True.intro
      clear hfull
      have KR2 := Lib.hid (KR.out.kept hb)
      have KR3 := Lib.hid (row_bk (p := Pg.zero) KR2.out)
      have B3 := Lib.hid (below_only (only_setRow (only_trans G1.out (only_below hb none)) (show w.heap.size ≤ R by have := SZ.out; omega) Pg.zero.cs))
      clear hb CT V1 KP KR G1
      go_wp2_with (first | (refine build_pg0 rfl rfl ?_) | (refine store_page rfl _ _ rfl R Pg.zero Pg.zero rfl rfl KR2.out ?_; generalize w2.setRow R Pg.zero.cs = w3 at *))
      refine bodyPost_ret (page_tct rfl _ _ R Pg.zero.cs KR3.out rfl rfl) rfl ?_
      exact .inl ⟨rfl, FL.out, B3.out⟩
    · rw [HV.out.own id hid] at ho
      have hon : ow id = none := by cases ho2 : ow id with | none => rfl | some x => rw [ho2] at ho; cases ho
      have h22 : 2 ≤ id := by
        by_cases e0 : id = 0
        · subst e0; rw [HV.out.z.1] at hon; cases hon
        · by_cases e1 : id = 1
          · subst e1; rw [HV.out.z.2] at hon; cases hon
          · omega
      obtain ⟨pg2, hpg2⟩ : ∃ pg2, pg2 = upd pg 1 (mrk (pg 1) id true) := ⟨_, rfl⟩
      have VT := Lib.hid (HV.out.take id h22 hid)
      have VF := Lib.hid (HP.out.vf.take id h22 hid)
      rw [← hpg2] at VT VF hsv
      have SM := Lib.hid (show ∀ i, i ≠ 1 → pg2 i = pg i from fun i hi => by rw [hpg2]; unfold upd; rw [if_neg hi])
      have ID := Lib.hid (show 2 ≤ id ∧ id < n ∧ ow id = none from ⟨h22, hid, hon⟩)
      have HG := Lib.hid (HC.out.grow HV.out HP.out HST.out HKD.out HRT.out h22 hid hon VT.out VF.out SM.out)
      rw [show ch.getD (ch.length - 1) 0 = lastOf ch from rfl, ← HLA.out, show pg la = pp from by rw [HLA.out]; exact HPP.out.symm] at HG
      have NOK := Lib.hid (show (nextOf pp id).ok from by
        have h1 := LA.out.2.2
        rw [← HPP.out] at h1
        refine ⟨?_, h1.2⟩
        have h2 := h1.1
        have := LN.out
        unfold Pg.head nextOf at *
        dsimp only
        omega)
      have V2 := Lib.hid hsv
      have KP2 := Lib.hid (KP.out.grown hg (fun e => by have := SZ.out; have := NEG.out; injection e with e; omega))
      have KR2 := Lib.hid (KR.out.grown hg (fun e => by have := SZ.out; have := NEG.out; injection e with e; omega))
      have G2 := Lib.hid (only_trans (World.grownBy.but G1.out (some b)) hg)
      clear hsv hg ho ha hpg2 CT V1 KP KR G1 hid hon h22
      have f3 : w2.frozen? ⟨P, 3, none⟩ = false := KP2.out.fz 3
      have x3 : w2.cell? ⟨P, 3, none⟩ = some (.int .i64 pp.n) := KP2.out.cell 3
      have KP3 := Lib.hid (show Bk (w2.setCell ⟨P, 3, none⟩ (.int .i64 id)) P 38 (nextOf pp id).cs from by have := KP2.out.set 3 (.int .i64 (id : Int)); rw [nextRow] at this; exact this)
      have KR3 := Lib.hid (KR2.out.far (p := ⟨P, 3, none⟩) (by show R ≠ P; have := SZ.out; omega) (.int .i64 id))
      have V3 := Lib.hid (V2.out.grown (only_set (World.grownBy.but (below_grow0 w2) (some P)) 3 (.int .i64 id)) (fun k hk => by cases hk; have := SZ.out; have := NEG.out; omega))
      have G3 := Lib.hid (only_set_new G2.out (p := ⟨P, 3, none⟩) (by show w.heap.size ≤ P; have := SZ.out; omega) (.int .i64 id))
      as_aux_lemma =>
        go_upto_region 5 with fail
        generalize w2.setCell ⟨P, 3, none⟩ (.int .i64 id) = w3 at *
        clear KP2 KR2 V2 G2 f3 x3
        have CS := Lib.hid (sv_set V3.out la (by have := LA.out; have := HN.out; rw [HLA.out]; omega) (nextOf pp id) NOK.out (by have := HM.out; omega))
        go_wp2_with (refine load_page rfl _ rfl P (nextOf pp id) rfl KP3.out ?_)
        refine CS.out.mono ?_
        rintro e w4 ⟨rfl, hsv, hg⟩
        have V4 := Lib.hid (hsv.alloc (.cells pgK3.cs 38))
        have KR4 := Lib.hid ((KR3.out.grown hg (fun e => by have := SZ.out; have := NEG.out; injection e with e; omega)).alloc (.cells pgK3.cs 38))
        have G4 := Lib.hid (only_alloc (only_trans G3.out hg) (.cells pgK3.cs 38))
        have KQ := Lib.hid (Bk.new w4 38 pgK3.cs)
        obtain ⟨Q, hQ⟩ : ∃ Q, Q = w4.heap.size := ⟨_, rfl⟩
        rw [← hQ] at KQ
        have QZ := Lib.hid (show w.heap.size ≤ Q ∧ Q ≠ R from by have h1 := (KR3.out.grown hg (fun e => by have := SZ.out; have := NEG.out; injection e with e; omega)).lt; have := SZ.out; omega)
        clear hsv hg CS V3 KP3 KR3 G3
        as_aux_lemma =>
          go_upto_region 9 with (first | (refine build_pgH rfl _ rfl rfl ?_) | (refine store_page_new rfl _ _ rfl pgK3 rfl rfl ?_; rw [← hQ]; clear hQ; generalize w4.alloc (.cells pgK3.cs 38) = w5 at *))
          have CS2 := Lib.hid (sv_set V4.out id (by have := ID.out; have := HN.out; omega) pgK3 pgK3_ok (by have := HM.out; omega))
          go_wp2_with (refine load_page rfl _ rfl Q pgK3 rfl KQ.out ?_)
          refine CS2.out.mono ?_
          rintro e w6 ⟨rfl, hsv, hg⟩
          have V6 := Lib.hid hsv
          have KR6 := Lib.hid (KR4.out.grown hg (fun e => by have := SZ.out; have := NEG.out; injection e with e; omega))
          have KQ6 := Lib.hid (KQ.out.grown hg (fun e => by have := QZ.out; have := NEG.out; injection e with e; omega))
          have G6 := Lib.hid (only_trans G4.out hg)
          have FV := Lib.hid (show SV (w6.drew.setRow R pgK3.cs) B g b gs r N (M + 3) und (upd (upd pg2 la (nextOf pp id)) id pgK3) from V6.out.drew.grown (row := some R) (only_row w6.drew R _) (fun k hk => by cases hk; have := SZ.out; have := NEG.out; omega))
          have FG := Lib.hid (only_setRow (only_drew G6.out) (show w.heap.size ≤ R by have := SZ.out; omega) pgK3.cs)
          clear hsv hg CS2 V4 KR4 KQ G4 V6 G6
          as_aux_lemma =>
            go_upto_region 12 with fail
            refine wp_region_held (S := fun w' => Bk w' Q 38 pgK3.cs) (by kernel_rfl) ?_
            refine held_take (fuel := 4) (i := 0) 45 rfl rfl (by kernel_rfl) (by kernel_rfl) (by kernel_rfl) (fun _ _ _ h => h) (held_move _ rfl (by kernel_rfl)) KQ6.out.drew ?_
            refine held_take (fuel := 3) (i := 1) 46 rfl rfl (by kernel_rfl) (by kernel_rfl) (by kernel_rfl) (fun _ _ _ h => h) (held_page _ rfl (by kernel_rfl) Q pgK3 rfl (fun w h => h)) KQ6.out.drew ?_
            refine held_take (fuel := 2) (i := 2) 8 rfl rfl (by kernel_rfl) (by kernel_rfl) (by kernel_rfl) (fun _ _ _ h => h) (held_assign _ rfl (by kernel_rfl)) KQ6.out.drew ?_
            simp only [Act.put, Act.eval, List.setIfInBounds_toArray, List.set_cons_succ, List.set_cons_zero]
            refine held_ready (fuel := 1) 3 (by kernel_rfl) ?_
            refine held_store rfl _ _ rfl rfl (by kernel_rfl) R pgK3 Pg.zero rfl rfl KR6.out.drew ⟨row_far KQ6.out.drew QZ.out.2, ?_⟩
            refine held_take (fuel := 0) (i := 4) 10 rfl rfl (by kernel_rfl) (by kernel_rfl) (by kernel_rfl) (fun _ _ _ h => h) (held_assign _ rfl (by kernel_rfl)) (row_far KQ6.out.drew QZ.out.2) ?_
            refine wpAnyH_done (by kernel_rfl) ?_ _
            simp only [Act.put, Act.eval, List.setIfInBounds_toArray, List.set_cons_succ, List.set_cons_zero]
            have FR := Lib.hid (show Bk (w6.drew.setRow R pgK3.cs) R 38 pgK3.cs from row_bk KR6.out.drew)
            generalize hW : World.setRow _ R pgK3.cs = wF
            have FR2 := Lib.hid (show Bk wF R 38 pgK3.cs by rw [← hW]; exact FR.out)
            have FV2 := Lib.hid (show SV wF B g b gs r N (M + 3) und (upd (upd pg2 la (nextOf pp id)) id pgK3) by rw [← hW]; exact FV.out)
            have FG2 := Lib.hid (show w.grownBy wF (some b) by rw [← hW]; exact FG.out)
            clear hW FR FV FG
            go_wp2
            refine bodyPost_ret (page_tct rfl _ _ R pgK3.cs FR2.out rfl rfl) rfl ?_
            refine .inr ⟨id, _, rfl, ID.out.2.1, FV2.out, HG.out, ?_, FG2.out⟩
            unfold upd; rw [if_pos rfl]
end Go.Proofs.YtelbioooggnbiaaGreat
namespace Go.Proofs.YtelbioooggnbiaaGreat
open Go.RowKit Go.Maps
variable [Fr]

/-- What the first free cell of a page is, told by a place and a bool. -/
def VacIs (p : Pg) (id m : Nat) (f : Nat → Int) (sl : Nat) (fd : Bool) : Prop := (fd = true → free1 p id m f sl ∧ ∀ q, q < sl → ¬ free1 p id m f q) ∧ sl < 6 ∧ (fd = false → ∀ i, i < 6 → ¬ free1 p id m f i)
theorem vacant_is (p : Pg) (id : Nat) (hid : id < 1024) (v : Value) (m : Nat) (f : Nat → Int) (w : World) (h : Ks w v m f) :
    Calls Tryz.prog 47 #[.int .i64 id, .agg p.cs, v] w fun e w' => ∃ (sl : Nat) (fd : Bool), e = .returned (.tuple #[.int .i64 sl, .bool fd]) ∧ VacIs p id m f sl fd ∧ Below w.heap.size w w' :=
  (vacant_any p id hid v m f w h).mono fun e w' hp => by
    rcases hp with ⟨hno, he, hb⟩ | ⟨i, hi, hf, hq, he, hb⟩
    · exact ⟨0, false, he, ⟨fun h => (by cases h), by omega, fun _ => hno⟩, hb⟩
    · exact ⟨i, true, he, ⟨fun _ => ⟨hf, hq⟩, hi, fun h => (by cases h)⟩, hb⟩
section
variable {ops : Array Oper} {Q : Exit → Act → World → Prop} {K : Act → World → Prop} {i : Nat} {o : Oper} {a : Act} {w : World}
end
theorem ks_of {w w' : World} {B : Nat} {v : Value} {m : Nat} {f : Nat → Int} (hm : m ≤ 9223372036854775807) (h : Row w B .i64 v m f) (hb : Below B w w') (hB : B ≤ w'.heap.size) : Ks w' v m f := ⟨hm, (h.below hb (Nat.le_refl _)).mono hB⟩
set_option maxRecDepth 100000 in
set_option maxHeartbeats 8000000 in
theorem visit_ins (id : Nat) (hid : id < 1024) (p p0 : Pg) (kv : Value) (m : Nat) (f : Nat → Int) (B A P K S F : Nat) (a0 s0 : Int) (f0 : Bool) (w : World) (hm : m ≤ 9223372036854775807) (hrow : Row w B .i64 kv m f)
    (hA : Bk w A 3 #[.int .i64 a0]) (hP : Bk w P 38 p0.cs) (hK : Bk w K 45 #[kv]) (hS : Bk w S 3 #[.int .i64 s0]) (hF : Bk w F 4 #[.bool f0]) (hAS : A ≠ S) (hB : B ≤ A ∧ B ≤ P ∧ B ≤ S ∧ B ≤ F) :
    Calls Tryz.prog 46 #[.int .i64 id, .agg p.cs, .pointer (some ⟨A, 0, none⟩), .pointer (some ⟨P, 0, none⟩), .pointer (some ⟨K, 0, none⟩), .pointer (some ⟨S, 0, none⟩), .pointer (some ⟨F, 0, none⟩)] w fun e w' =>
      ∃ (sl : Nat) (fd : Bool), e = .returned (.bool fd) ∧ VacIs p id m f sl fd ∧ Bk w' A 3 #[.int .i64 id] ∧ Bk w' P 38 p.cs ∧ Bk w' S 3 #[.int .i64 sl] ∧ Bk w' F 4 #[.bool fd] ∧
        ∃ w1 w2 w3, w.grownBy w1 (some A) ∧ w1.grownBy w2 (some P) ∧ w2.grownBy w3 (some S) ∧ w3.grownBy w' (some F) := by
  have G := Lib.hid (Bk.new w 38 p.cs)
  have A0 := Lib.hid (hA.alloc (.cells p.cs 38)); have P0 := Lib.hid (hP.alloc (.cells p.cs 38)); have K0 := Lib.hid (hK.alloc (.cells p.cs 38)); have S0 := Lib.hid (hS.alloc (.cells p.cs 38)); have F0 := Lib.hid (hF.alloc (.cells p.cs 38))
  have GA := Lib.hid (World.grownBy_alloc w (.cells p.cs 38) none)
  have ROW := Lib.hid hrow
  have AP := Lib.hid (Bk.ne_ hA hP (by decide)); have AK := Lib.hid (Bk.ne_ hA hK (by decide)); have AF := Lib.hid (Bk.ne_ hA hF (by decide))
  have PK := Lib.hid (Bk.ne_ hP hK (by decide)); have PS := Lib.hid (Bk.ne_ hP hS (by decide)); have PF := Lib.hid (Bk.ne_ hP hF (by decide)); have KS := Lib.hid (Bk.ne_ hK hS (by decide)); have KF := Lib.hid (Bk.ne_ hK hF (by decide)); have SF := Lib.hid (Bk.ne_ hS hF (by decide))
  have AS := Lib.hid hAS; have HB := Lib.hid hB
  have NE := Lib.hid (show A ≠ w.heap.size ∧ P ≠ w.heap.size ∧ S ≠ w.heap.size ∧ F ≠ w.heap.size by have := hA.lt; have := hP.lt; have := hS.lt; have := hF.lt; omega)
  have BW := Lib.hid (show B ≤ w.heap.size by have := hA.lt; omega)
  clear hA hP hK hS hF hAS hB hrow
  go_enter Tryz.func46, Tryz.ntmps46
  go_upto_region 1 with fail
  generalize w.alloc (.cells p.cs 38) = w0 at *
  obtain ⟨g, hg⟩ : ∃ g, g = w.heap.size := ⟨_, rfl⟩
  rw [← hg] at G NE ⊢
  clear hg
  refine wp_region_held (S := fun w' => Bk w' g 38 p.cs) (by kernel_rfl) ?_
  refine held_take (fuel := 3) (i := 0) 10 rfl rfl (by kernel_rfl) (by kernel_rfl) (by kernel_rfl) (fun _ _ _ h => h) (held_move _ rfl (by kernel_rfl)) G.out.drew ?_
  refine held_take (fuel := 2) (i := 1) 11 rfl rfl (by kernel_rfl) (by kernel_rfl) (by kernel_rfl) (fun _ _ _ h => h) (held_page _ rfl (by kernel_rfl) g p rfl (fun w h => h)) G.out.drew ?_
  simp only [Act.put, Act.eval, List.setIfInBounds_toArray, List.set_cons_succ, List.set_cons_zero]
  have A1 := Lib.hid (A0.out.drew.set 0 (.int .i64 (id : Int)))
  have P1 := Lib.hid (P0.out.drew.far (p := ⟨A, 0, none⟩) (by show P ≠ A; exact AP.out.symm) (.int .i64 (id : Int)))
  have K1 := Lib.hid (K0.out.drew.far (p := ⟨A, 0, none⟩) (by show K ≠ A; exact AK.out.symm) (.int .i64 (id : Int)))
  have S1 := Lib.hid (S0.out.drew.far (p := ⟨A, 0, none⟩) (by show S ≠ A; exact AS.out.symm) (.int .i64 (id : Int)))
  have F1 := Lib.hid (F0.out.drew.far (p := ⟨A, 0, none⟩) (by show F ≠ A; exact AF.out.symm) (.int .i64 (id : Int)))
  have g1 := Lib.hid (G.out.drew.far (p := ⟨A, 0, none⟩) (by show g ≠ A; exact NE.out.1.symm) (.int .i64 (id : Int)))
  have GB := Lib.hid (show w.grownBy (w0.drew.setCell ⟨A, 0, none⟩ (.int .i64 id)) (some A) from only_set (only_drew (World.grownBy.but GA.out (some A))) 0 _)
  refine held_ready (fuel := 1) 2 (by kernel_rfl) ?_
  refine held_store_int rfl _ _ rfl rfl (by kernel_rfl) A id a0 rfl rfl A0.out.drew ⟨g1.out, ?_⟩
  obtain ⟨w1, hw1⟩ : ∃ w1, w1 = w0.drew.setCell ⟨A, 0, none⟩ (.int .i64 id) := ⟨_, rfl⟩
  rw [← hw1] at A1 P1 K1 S1 F1 g1 GB
  change wpAnyH _ _ _ _ _ _ _ _ (w0.drew.setCell ⟨A, 0, none⟩ (.int .i64 id))
  rw [← hw1]
  clear hw1 A0 P0 K0 S0 F0 G GA
  have A2 := Lib.hid (row_far (cs := p.cs) A1.out AP.out)
  have P2 := Lib.hid (row_bk (p := p) P1.out)
  have K2 := Lib.hid (row_far (cs := p.cs) K1.out PK.out.symm)
  have S2 := Lib.hid (row_far (cs := p.cs) S1.out PS.out.symm)
  have F2 := Lib.hid (row_far (cs := p.cs) F1.out PF.out.symm)
  have g2 := Lib.hid (row_far (cs := p.cs) g1.out NE.out.2.1.symm)
  have GC := Lib.hid (show w1.grownBy (w1.setRow P p.cs) (some P) from only_row w1 P _)
  refine held_ready (fuel := 0) 3 (by kernel_rfl) ?_
  refine held_store rfl _ _ rfl rfl (by kernel_rfl) P p p0 rfl rfl P1.out ⟨g2.out, ?_⟩
  refine wpAnyH_done (by kernel_rfl) ?_ _
  generalize w1.setRow P p.cs = w2 at *
  clear A1 P1 K1 S1 F1 g1
  have B2 := Lib.hid (show Below B w w2 from bl_grow (bl_grow (Below.refl _ _) GB.out (fun j hj => by cases hj; exact HB.out.1) BW.out) GC.out (fun j hj => by cases hj; exact HB.out.2.1) (Nat.le_trans BW.out GB.out.size))
  have CV := Lib.hid (vacant_is p id hid kv m f w2 (ks_of hm ROW.out B2.out (Nat.le_trans BW.out B2.out.size)))
  have k0 : w2.cell? ⟨K, 0, none⟩ = some kv := K2.out.cell 0
  as_aux_lemma =>
    go_wp2_with (refine load_page rfl _ rfl g p rfl g2.out ?_)
    refine CV.out.mono ?_
    rintro e w3 ⟨sl, fd, rfl, hv, hb⟩
    have HV := Lib.hid hv
    have A3 := Lib.hid (A2.out.kept hb); have P3 := Lib.hid (P2.out.kept hb); have S3 := Lib.hid (S2.out.kept hb); have F3 := Lib.hid (F2.out.kept hb)
    have GD := Lib.hid (only_below hb (some S))
    clear hv hb CV k0 A2 P2 K2 S2 F2 g2 B2
    have c1 : w3.cell? ⟨S, 0, none⟩ = some (.int .i64 s0) := S3.out.cell 0
    have c2 : w3.frozen? ⟨S, 0, none⟩ = false := S3.out.fz 0
    have d1 : w3.cell? ⟨F, 0, none⟩ = some (.bool f0) := F3.out.cell 0
    have d2 : w3.frozen? ⟨F, 0, none⟩ = false := F3.out.fz 0
    have sf : S ≠ F := SF.out
    have fs : F ≠ S := SF.out.symm
    have FIN := Lib.hid (show Bk ((w3.setCell ⟨S, 0, none⟩ (.int .i64 sl)).setCell ⟨F, 0, none⟩ (.bool fd)) A 3 #[.int .i64 id] ∧ Bk ((w3.setCell ⟨S, 0, none⟩ (.int .i64 sl)).setCell ⟨F, 0, none⟩ (.bool fd)) P 38 p.cs ∧ Bk ((w3.setCell ⟨S, 0, none⟩ (.int .i64 sl)).setCell ⟨F, 0, none⟩ (.bool fd)) S 3 #[.int .i64 sl] ∧ Bk ((w3.setCell ⟨S, 0, none⟩ (.int .i64 sl)).setCell ⟨F, 0, none⟩ (.bool fd)) F 4 #[.bool fd] ∧
        ∃ v1 v2 v3, w.grownBy v1 (some A) ∧ v1.grownBy v2 (some P) ∧ v2.grownBy v3 (some S) ∧ v3.grownBy ((w3.setCell ⟨S, 0, none⟩ (.int .i64 sl)).setCell ⟨F, 0, none⟩ (.bool fd)) (some F) from
      ⟨(A3.out.far (by show A ≠ S; exact AS.out) _).far (by show A ≠ F; exact AF.out) _, (P3.out.far (by show P ≠ S; exact PS.out) _).far (by show P ≠ F; exact PF.out) _, (S3.out.set 0 _).far (by show S ≠ F; exact SF.out) _, (F3.out.far (by show F ≠ S; exact SF.out.symm) _).set 0 _,
        w1, w2, w3.setCell ⟨S, 0, none⟩ (.int .i64 sl), GB.out, GC.out, only_set GD.out 0 _, only_set (World.grownBy.but (below_grow0 _) (some F)) 0 _⟩)
    clear A3 P3 S3 F3 GB GC GD
    go_wp2
    go_ret
    exact ⟨sl, fd, rfl, HV.out, FIN.out⟩
end Go.Proofs.YtelbioooggnbiaaGreat
namespace Go.Proofs.YtelbioooggnbiaaGreat
open Go.RowKit Go.Maps
variable [Fr]

/-- Each place of these pages has a record. -/
def AllL (ch : List Nat) (L : Nat → Nat → Ce) : Prop := ∀ p, p ∈ ch → ∀ i, i < 6 → (L p i).st = 1
def InsPost (X : Prop) (w : World) (B g b gs r N M n : Nat) (und : Nat → Pg) (ch : List Nat) (L : Nat → Nat → Ce) (val : ByteArray) (m : Nat) (f : Nat → Int) (e : Ending) (w' : World) : Prop :=
  (32 < val.size ∧ e = .returned (.tuple #[.int .i64 0, .agg ud0.cs, .int .i64 2]) ∧ Below w.heap.size w w') ∨
  (val.size ≤ 32 ∧ e = .returned (.tuple #[.int .i64 0, .agg ud0.cs, .int .i64 140]) ∧ ¬ X ∧ (m = 0 → AllL ch L ∧ True) ∧ ∃ M' pg' ch', M' ≤ M + 15 ∧ SV w' B g b gs r N M' und pg' ∧ Hc pg' n ch' L ∧ w.grownBy w' (some b)) ∨
  (∃ p s : Nat, val.size ≤ 32 ∧ s < 6 ∧ p < n ∧ (L p s).st ≠ 1 ∧ ¬ onK m f ((p : Int) * 8 + (s : Int)) ∧ e = .returned (.tuple #[.int .i64 ((p : Int) * 8 + (s : Int)), .agg (udC p s (L p s)).cs, .int .i64 0]) ∧
    (X → p = ch.getD 0 0 ∧ s = 0) ∧ ∃ M' pg' ch', p ∈ ch' ∧ M' ≤ M + 16 ∧ SV w' B g b gs r N M' und pg' ∧ Hc pg' n ch' (putL L p s ⟨1, val⟩) ∧ w.grownBy w' (some b))
def FhSt (X : Prop) (w wr : World) (B g b gs r N M n : Nat) (und : Nat → Pg) (ch0 : List Nat) (L : Nat → Nat → Ce) (kv : Value) (m : Nat) (f : Nat → Int) (K U A S P F : Nat) (gr : Nat) (er : Int) (fd : Bool) : Prop :=
  ∃ (ad : Nat) (pp : Pg) (sl : Nat) (pg' : Nat → Pg) (ch' : List Nat) (M' : Nat),
    SV wr B g b gs r N M' und pg' ∧ M' ≤ M + 3 * gr ∧ Hc pg' n ch' L ∧ Bk wr A 3 #[.int .i64 ad] ∧ Bk wr P 38 pp.cs ∧ Bk wr S 3 #[.int .i64 sl] ∧ Bk wr F 4 #[.bool fd] ∧ Bk wr K 45 #[kv] ∧ Bk wr U 72 ud0.cs ∧ w.grownBy wr (some b) ∧ (X → er = 0 ∧ fd = true ∧ ad = ch0.getD 0 0 ∧ sl = 0) ∧
    ((er = 140 ∧ (m = 0 → AllL ch0 L ∧ True)) ∨
     (er = 0 ∧ ad ∈ ch' ∧ pp = pg' ad ∧ VacIs pp ad m f sl fd ∧ (fd = false → ad = lastOf ch' ∧ (m = 0 → gr = 0 ∧ ch' = ch0 ∧ AllL ch0 L))))
theorem AllL.of {pg : Nat → Pg} {n : Nat} {ch : List Nat} {L : Nat → Nat → Ce} (h : Hc pg n ch L) {m : Nat} {f : Nat → Int} (hm : m = 0) (ha : ∀ q, q < ch.length → ∀ j, j < 6 → ¬ free1 (pg (ch.getD q 0)) (ch.getD q 0) m f j) : AllL ch L := fun p hp i hi => by
  obtain ⟨q, hq, e⟩ := mem_getD hp
  have h1 := ha q hq i hi
  rw [e] at h1
  rw [← h.cell hp hi]
  refine Decidable.byContradiction fun hne => h1 ⟨hne, fun ⟨k, hk, _⟩ => by omega⟩
theorem last_app (ch : List Nat) (id : Nat) : lastOf (ch ++ [id]) = id := by
  unfold lastOf
  rw [List.length_append, show ch.length + [id].length - 1 = ch.length from rfl, List.getD_eq_getElem?_getD, List.getElem?_append_right (Nat.le_refl _), Nat.sub_self]; rfl
theorem free_blank (id : Nat) (f : Nat → Int) : free1 pgK3 id 0 f 0 := ⟨by decide, fun ⟨k, hk, _⟩ => by omega⟩
set_option maxRecDepth 100000 in
set_option maxHeartbeats 6000000 in
theorem insert_any {w : World} {B g b gs r N M n : Nat} {und pg : Nat → Pg} {ch : List Nat} {L : Nat → Nat → Ce} (h : SV w B g b gs r N M und pg) (hn : n ≤ N) (hc : Hc pg n ch L) (hM : M + 16 < maxLen) (val : ByteArray) (kv : Value) (m : Nat) (f : Nat → Int) (hm : m ≤ 9223372036854775807) (hk : Row w B .i64 kv m f) :
    Calls Tryz.prog 24 #[.pointer (some ⟨g, 0, none⟩), .int .i64 1, .string val, kv] w (InsPost (free1 (pg (ch.getD 0 0)) (ch.getD 0 0) m f 0) w B g b gs r N M n und ch L val m f) := by
  obtain ⟨ka, kc, rfl, hk0, hk1⟩ := hk
  have hk : Row w B .i64 (.slice ka m kc) m f := ⟨ka, kc, rfl, hk0, hk1⟩
  clear hk0 hk1
  have V0 := Lib.hid h; have HC := Lib.hid hc; have HN := Lib.hid hn; have HM := Lib.hid hM; have HK := Lib.hid hk; have MM := Lib.hid hm
  have NEG := Lib.hid h.gs_ne
  have BB := Lib.hid h.bb
  have LN := Lib.hid hc.len
  obtain ⟨X, hX⟩ : ∃ X, X = free1 (pg (ch.getD 0 0)) (ch.getD 0 0) m f 0 := ⟨_, rfl⟩
  have XE := Lib.hid hX
  rw [← hX]
  clear h hc hn hM hk hm hX
  go_enter Tryz.func24, Tryz.ntmps24
  go_upto_region 1 with fail
  change Code.wp _ _ _ _ ((w.alloc (.cells #[.slice ka m kc] 45)).alloc (.cells ud0.cs 72))
  by_cases hv : (32 : Int) < (val.size : Int)
  · have HV := Lib.hid (show 32 < val.size by omega)
    have KU := Lib.hid (Bk.new2 w (.cells #[.slice ka m kc] 45) 72 ud0.cs)
    have G1 := Lib.hid (only_alloc (World.grownBy_alloc w (.cells #[.slice ka m kc] 45) none) (.cells ud0.cs 72))
    generalize (w.alloc (.cells #[.slice ka m kc] 45)).alloc (.cells ud0.cs 72) = w1 at *
    obtain ⟨U, hU⟩ : ∃ U, U = w.heap.size + 1 := ⟨_, rfl⟩
    rw [← hU] at KU ⊢
    have KU2 := Lib.hid (ud_bk (p := ud0) KU.out)
    have B2 := Lib.hid (below_only (only_setRow G1.out (show w.heap.size ≤ U by omega) ud0.cs))
    clear V0 HK G1 hU
    go_wp2_with (first | (refine build_ud0 rfl rfl ?_) | (refine store_ud rfl _ _ rfl U ud0 ud0 rfl rfl KU.out ?_; generalize w1.setRow U ud0.cs = w2 at *))
    refine bodyPost_ret (ud_tct rfl _ _ U ud0 KU2.out rfl) rfl ?_
    exact .inl ⟨HV.out, rfl, B2.out⟩
  have hvn : ¬ 32 < val.size := by omega
  have HV := Lib.hid (show val.size ≤ 32 by omega)
  as_aux_lemma =>
    go_upto_region 6 with fail
    change Code.wp _ _ _ _ ((((((w.alloc (.cells #[.slice ka m kc] 45)).alloc (.cells ud0.cs 72)).alloc (.cells #[.int .i64 0] 3)).alloc (.cells #[.int .i64 0] 3)).alloc (.cells Pg.zero.cs 38)).alloc (.cells #[.bool false] 4))
    have KK := Lib.hid ((((((Bk.new w 45 #[.slice ka m kc]).alloc (.cells ud0.cs 72)).alloc (.cells #[.int .i64 0] 3)).alloc (.cells #[.int .i64 0] 3)).alloc (.cells Pg.zero.cs 38)).alloc (.cells #[.bool false] 4))
    have KU := Lib.hid (((((Bk.new2 w (.cells #[.slice ka m kc] 45) 72 ud0.cs).alloc (.cells #[.int .i64 0] 3)).alloc (.cells #[.int .i64 0] 3)).alloc (.cells Pg.zero.cs 38)).alloc (.cells #[.bool false] 4))
    have KA := Lib.hid ((((Bk.new3 w (.cells #[.slice ka m kc] 45) (.cells ud0.cs 72) 3 #[.int .i64 0]).alloc (.cells #[.int .i64 0] 3)).alloc (.cells Pg.zero.cs 38)).alloc (.cells #[.bool false] 4))
    have KS := Lib.hid (((bk_at (w := (((w.alloc (.cells #[.slice ka m kc] 45)).alloc (.cells ud0.cs 72)).alloc (.cells #[.int .i64 0] 3))) (k := w.heap.size + 1 + 1 + 1) (by simp) 3 #[.int .i64 0]).alloc (.cells Pg.zero.cs 38)).alloc (.cells #[.bool false] 4))
    have KP := Lib.hid ((bk_at (w := ((((w.alloc (.cells #[.slice ka m kc] 45)).alloc (.cells ud0.cs 72)).alloc (.cells #[.int .i64 0] 3)).alloc (.cells #[.int .i64 0] 3))) (k := w.heap.size + 1 + 1 + 1 + 1) (by simp) 38 Pg.zero.cs).alloc (.cells #[.bool false] 4))
    have KF := Lib.hid (bk_at (w := (((((w.alloc (.cells #[.slice ka m kc] 45)).alloc (.cells ud0.cs 72)).alloc (.cells #[.int .i64 0] 3)).alloc (.cells #[.int .i64 0] 3)).alloc (.cells Pg.zero.cs 38))) (k := w.heap.size + 1 + 1 + 1 + 1 + 1) (by simp) 4 #[.bool false])
    have V6 := Lib.hid ((((((V0.out.alloc (.cells #[.slice ka m kc] 45)).alloc (.cells ud0.cs 72)).alloc (.cells #[.int .i64 0] 3)).alloc (.cells #[.int .i64 0] 3)).alloc (.cells Pg.zero.cs 38)).alloc (.cells #[.bool false] 4))
    have B6 := Lib.hid (below_only (only_alloc (only_alloc (only_alloc (only_alloc (only_alloc (World.grownBy_alloc w (.cells #[.slice ka m kc] 45) none) (.cells ud0.cs 72)) (.cells #[.int .i64 0] 3)) (.cells #[.int .i64 0] 3)) (.cells Pg.zero.cs 38)) (.cells #[.bool false] 4)))
    obtain ⟨w6, hw6⟩ : ∃ w6, w6 = ((((((w.alloc (.cells #[.slice ka m kc] 45)).alloc (.cells ud0.cs 72)).alloc (.cells #[.int .i64 0] 3)).alloc (.cells #[.int .i64 0] 3)).alloc (.cells Pg.zero.cs 38)).alloc (.cells #[.bool false] 4)) := ⟨_, rfl⟩
    rw [← hw6] at KK KU KA KS KP KF V6 B6 ⊢
    clear hw6 V0
    obtain ⟨F, hF⟩ : ∃ F, F = w.heap.size + 1 + 1 + 1 + 1 + 1 := ⟨_, rfl⟩
    rw [← hF] at KF ⊢
    obtain ⟨P, hP⟩ : ∃ P, P = w.heap.size + 1 + 1 + 1 + 1 := ⟨_, rfl⟩
    rw [← hP] at KP ⊢
    obtain ⟨S, hS⟩ : ∃ S, S = w.heap.size + 1 + 1 + 1 := ⟨_, rfl⟩
    rw [← hS] at KS ⊢
    obtain ⟨A, hA⟩ : ∃ A, A = w.heap.size + 1 + 1 := ⟨_, rfl⟩
    rw [← hA] at KA ⊢
    obtain ⟨U, hU⟩ : ∃ U, U = w.heap.size + 1 := ⟨_, rfl⟩
    rw [← hU] at KU ⊢
    obtain ⟨K, hK⟩ : ∃ K, K = w.heap.size := ⟨_, rfl⟩
    rw [← hK] at KK ⊢
    have SZ := Lib.hid (show K = w.heap.size ∧ U = w.heap.size + 1 ∧ A = w.heap.size + 1 + 1 ∧ S = w.heap.size + 1 + 1 + 1 ∧ P = w.heap.size + 1 + 1 + 1 + 1 ∧ F = w.heap.size + 1 + 1 + 1 + 1 + 1 ∧ F < w6.heap.size from ⟨hK, hU, hA, hS, hP, hF, KF.out.lt⟩)
    have NEA := Lib.hid (show A ≠ g ∧ A ≠ b ∧ A ≠ gs ∧ A ≠ r by have := SZ.out; have := NEG.out; omega)
    have NES := Lib.hid (show S ≠ g ∧ S ≠ b ∧ S ≠ gs ∧ S ≠ r by have := SZ.out; have := NEG.out; omega)
    have NEP := Lib.hid (show P ≠ g ∧ P ≠ b ∧ P ≠ gs ∧ P ≠ r by have := SZ.out; have := NEG.out; omega)
    have NEF := Lib.hid (show F ≠ g ∧ F ≠ b ∧ F ≠ gs ∧ F ≠ r by have := SZ.out; have := NEG.out; omega)
    have BL := Lib.hid (show B ≤ w.heap.size by have := BB.out; have := NEG.out; omega)
    clear hF hP hS hA hU hK
    have CW := Lib.hid (walk_any HC.out 46 #[.pointer (some ⟨A, 0, none⟩), .pointer (some ⟨P, 0, none⟩), .pointer (some ⟨K, 0, none⟩), .pointer (some ⟨S, 0, none⟩), .pointer (some ⟨F, 0, none⟩)]
      (enters_of Tryz.func46 (by kernel_rfl) rfl) (w := w6) (B := B) (g := g) (b := b) (gs := gs) (r := r) (N := N) (M := M) (und := und)
      (fun i w' => SV w' B g b gs r N M und pg ∧ w6.heap.size ≤ w'.heap.size ∧ Below w.heap.size w w' ∧ Bk w' K 45 #[.slice ka m kc] ∧ Bk w' U 72 ud0.cs ∧ (∃ (a0 : Nat) (p0 : Pg) (s0 : Nat), Bk w' A 3 #[.int .i64 a0] ∧ Bk w' P 38 p0.cs ∧ Bk w' S 3 #[.int .i64 s0] ∧ (0 < i → a0 = ch.getD (i - 1) 0 ∧ p0 = pg a0 ∧ VacIs p0 a0 m f s0 false)) ∧ Bk w' F 4 #[.bool false] ∧ ∀ q, q < i → ∀ j, j < 6 → ¬ free1 (pg (ch.getD q 0)) (ch.getD q 0) m f j)
      (fun i w' => SV w' B g b gs r N M und pg ∧ Below w.heap.size w w' ∧ Bk w' K 45 #[.slice ka m kc] ∧ Bk w' U 72 ud0.cs ∧ Bk w' A 3 #[.int .i64 (ch.getD i 0 : Nat)] ∧ Bk w' P 38 (pg (ch.getD i 0)).cs ∧ Bk w' F 4 #[.bool true] ∧ (∀ q, q < i → ∀ j, j < 6 → ¬ free1 (pg (ch.getD q 0)) (ch.getD q 0) m f j) ∧ ∃ sl : Nat, Bk w' S 3 #[.int .i64 sl] ∧ VacIs (pg (ch.getD i 0)) (ch.getD i 0) m f sl true)
      HN.out (fun i w' h => h.1)
      (fun i w' w'' h hb => ⟨h.1.kept hb, Nat.le_trans h.2.1 hb.size, below_then h.2.2.1 hb h.2.2.1.size, h.2.2.2.1.kept hb, h.2.2.2.2.1.kept hb, h.2.2.2.2.2.1.elim fun a0 h => h.elim fun p0 h => h.elim fun s0 h => ⟨a0, p0, s0, h.1.kept hb, h.2.1.kept hb, h.2.2.1.kept hb, h.2.2.2⟩, h.2.2.2.2.2.2.1.kept hb, h.2.2.2.2.2.2.2⟩)
      (fun i w' hi h => by
        obtain ⟨h1, h2, h3, h4, h5, ⟨a0, p0, s0, h6, h7, h8, h9⟩, h10, h11⟩ := h
        have hS := SZ.out
        have hpn := (HC.out.page i hi).2.1
        have hl := LN.out
        have hbl := BL.out
        refine (visit_ins (ch.getD i 0) (by omega) (pg (ch.getD i 0)) p0 (.slice ka m kc) m f B A P K S F a0 s0 false w' MM.out (HK.out.below (h3.mono hbl) (Nat.le_refl _)) h6 h7 h4 h8 h10 (by omega) ⟨by omega, by omega, by omega, by omega⟩).mono ?_
        rintro e w'' ⟨sl, fd, rfl, hv, k1, k2, k3, k4, w1, w2, w3, g1, g2, g3, g4⟩
        have far : ∀ q t cs, Bk w' q t cs → q ≠ A → q ≠ P → q ≠ S → q ≠ F → Bk w'' q t cs := fun q t cs hk ha hp hs hf => (((hk.grown g1 (fun e => ha (by injection e))).grown g2 (fun e => hp (by injection e))).grown g3 (fun e => hs (by injection e))).grown g4 (fun e => hf (by injection e))
        have hsz : w'.heap.size ≤ w''.heap.size := Nat.le_trans (Nat.le_trans g1.size g2.size) (Nat.le_trans g3.size g4.size)
        have hsv : SV w'' B g b gs r N M und pg := (h1.far g1 g2 NEA.out NEP.out).far g3 g4 NES.out NEF.out
        have hbb : Below w.heap.size w w'' := bl_grow (bl_grow (bl_grow (bl_grow h3 g1 (fun j hj => by cases hj; omega) h3.size) g2 (fun j hj => by cases hj; omega) (Nat.le_trans h3.size g1.size)) g3 (fun j hj => by cases hj; omega) (Nat.le_trans h3.size (Nat.le_trans g1.size g2.size))) g4 (fun j hj => by cases hj; omega) (Nat.le_trans h3.size (Nat.le_trans (Nat.le_trans g1.size g2.size) g3.size))
        refine ⟨?_, fun q cs hq hk => far q _ cs hk (by omega) (by omega) (by omega) (by omega)⟩
        cases fd with
        | true =>
          right
          exact ⟨rfl, hsv, hbb, far _ _ _ h4 (by omega) (by omega) (by omega) (by omega), far _ _ _ h5 (by omega) (by omega) (by omega) (by omega), k1, k2, k4, h11, sl, k3, hv⟩
        | false =>
          left
          exact ⟨rfl, hsv, Nat.le_trans h2 hsz, hbb, far _ _ _ h4 (by omega) (by omega) (by omega) (by omega), far _ _ _ h5 (by omega) (by omega) (by omega) (by omega), ⟨_, _, sl, k1, k2, k3, fun _ => ⟨rfl, rfl, hv⟩⟩, k4, fun q hq => by
            by_cases e : q = i
            · rw [e]; exact hv.2.2 rfl
            · exact h11 q (by omega)⟩)
      (fun i w' h => h.2.1)
      ⟨V6.out, Nat.le_refl _, B6.out, KK.out, KU.out, ⟨0, _, 0, KA.out, KP.out, KS.out, fun h => absurd h (Nat.lt_irrefl _)⟩, KF.out, fun q hq => absurd hq (Nat.not_lt_zero q)⟩)
    have ST0 := Lib.hid (fun (w' : World) => show (SV w' B g b gs r N M und pg ∧ w6.heap.size ≤ w'.heap.size ∧ Below w.heap.size w w' ∧ Bk w' K 45 #[.slice ka m kc] ∧ Bk w' U 72 ud0.cs ∧ (∃ (a0 : Nat) (p0 : Pg) (s0 : Nat), Bk w' A 3 #[.int .i64 a0] ∧ Bk w' P 38 p0.cs ∧ Bk w' S 3 #[.int .i64 s0] ∧ (0 < ch.length → a0 = ch.getD (ch.length - 1) 0 ∧ p0 = pg a0 ∧ VacIs p0 a0 m f s0 false)) ∧ Bk w' F 4 #[.bool false] ∧ ∀ q, q < ch.length → ∀ j, j < 6 → ¬ free1 (pg (ch.getD q 0)) (ch.getD q 0) m f j) → FhSt X w w' B g b gs r N M n und ch L (.slice ka m kc) m f K U A S P F 0 0 false from fun ⟨h1, h2, h3, h4, h5, ⟨a0, p0, s0, h6, h7, h8, h9⟩, h10, h11⟩ => by
        obtain ⟨e1, e2, e3⟩ := h9 LN.out.1
        exact ⟨a0, p0, s0, pg, ch, M, h1, Nat.le_refl _, HC.out, h6, h7, h8, h10, h4, h5, only_below h3 (some b), (fun hx => by rw [XE.out] at hx; exact absurd hx (h11 0 LN.out.1 0 (by omega))), .inr ⟨rfl, by rw [e1]; exact getD_mem (by have := LN.out; omega), e2, e3, fun _ => ⟨e1, fun hm => ⟨rfl, rfl, AllL.of HC.out hm h11⟩⟩⟩⟩)
    have ST1 := Lib.hid (fun (w' : World) (i : Nat) (hi : i < ch.length) => show (SV w' B g b gs r N M und pg ∧ Below w.heap.size w w' ∧ Bk w' K 45 #[.slice ka m kc] ∧ Bk w' U 72 ud0.cs ∧ Bk w' A 3 #[.int .i64 (ch.getD i 0 : Nat)] ∧ Bk w' P 38 (pg (ch.getD i 0)).cs ∧ Bk w' F 4 #[.bool true] ∧ (∀ q, q < i → ∀ j, j < 6 → ¬ free1 (pg (ch.getD q 0)) (ch.getD q 0) m f j) ∧ ∃ sl : Nat, Bk w' S 3 #[.int .i64 sl] ∧ VacIs (pg (ch.getD i 0)) (ch.getD i 0) m f sl true) → FhSt X w w' B g b gs r N M n und ch L (.slice ka m kc) m f K U A S P F 0 0 true from fun ⟨h1, h2, h3, h4, h5, h6, h7, ha, sl, h8, h9⟩ =>
        ⟨ch.getD i 0, _, sl, pg, ch, M, h1, Nat.le_refl _, HC.out, h5, h6, h8, h7, h3, h4, only_below h2 (some b), (fun hx => by
          rw [XE.out] at hx
          have i0 : i = 0 := by
            by_cases e : i = 0
            · exact e
            · exact absurd hx (ha 0 (by omega) 0 (by omega))
          subst i0
          refine ⟨rfl, rfl, rfl, ?_⟩
          by_cases e : sl = 0
          · exact e
          · exact absurd hx ((h9.1 rfl).2 0 (by omega))), .inr ⟨rfl, getD_mem hi, rfl, h9, fun h => (by cases h)⟩⟩)
    clear KK KU KA KS KP KF V6 B6
    as_aux_lemma =>
      go_wp2_with fail
      refine CW.out.mono ?_
      rintro e w7 ⟨rfl, hpost⟩
      obtain ⟨fd0, hst⟩ : ∃ fd0, FhSt X w w7 B g b gs r N M n und ch L (.slice ka m kc) m f K U A S P F 0 0 fd0 := by
        rcases hpost with hp | ⟨i, hi, hp⟩
        · exact ⟨false, ST0.out w7 hp⟩
        · exact ⟨true, ST1.out w7 i hi hp⟩
      have ST := Lib.hid hst
      clear hst hpost CW ST0 ST1
      as_aux_lemma =>
        go_wp2_with fail
        go_loopw [15, 16] (fun e i wr => ∃ (gr : Nat) (er : Int) (fd : Bool), gr ≤ 5 ∧ e = .int .i64 er ∧ i = .int .i64 gr ∧ FhSt X w wr B g b gs r N M n und ch L (.slice ka m kc) m f K U A S P F gr er fd ∧ (gr = 5 → er = 140 ∨ fd = true)) (fun _ i _ => 6 - (intOf i).toNat)
        case atStart => exact ⟨0, 0, fd0, by omega, rfl, rfl, ST.out, fun h => by omega⟩
        case round =>
          obtain ⟨gr, er, fd, hgr, rfl, rfl, hst, hg5⟩ := hrel
          obtain ⟨ad, pp, sl, pg', ch', M', s1, s2, s3, s4, s5, s6, s7, s8, s9, s10, sX, s11⟩ := hst
          have V := Lib.hid s1; have ML := Lib.hid s2; have HC' := Lib.hid s3; have KA := Lib.hid s4; have KP := Lib.hid s5; have KS := Lib.hid s6; have KF := Lib.hid s7; have KK := Lib.hid s8; have KU := Lib.hid s9; have G1 := Lib.hid s10
          have H5 := Lib.hid hg5; have GR := Lib.hid hgr
          have SX := Lib.hid sX
          clear s1 s2 s3 s4 s5 s6 s7 s8 s9 s10 sX hg5 ST
          have f0 : wr.cell? ⟨F, 0, none⟩ = some (.bool fd) := KF.out.cell 0
          have ERR := Lib.hid (fun (hnx : ¬ X) (h140 : m = 0 → AllL ch L ∧ True) => show InsPost X w B g b gs r N M n und ch L val m f (.returned (.tuple #[.int .i64 0, .agg ud0.cs, .int .i64 140])) (wr.setRow U ud0.cs) from
            .inr (.inl ⟨HV.out, rfl, hnx, h140, M', pg', ch', by have := ML.out; have := GR.out; omega, V.out.grown (row := some U) (only_row wr U _) (fun k hk => by cases hk; have := SZ.out; have := NEG.out; omega), HC'.out, only_setRow G1.out (show w.heap.size ≤ U by have := SZ.out; omega) ud0.cs⟩))
          have KU2 := Lib.hid (ud_bk (p := ud0) KU.out)
          rcases s11 with ⟨rfl, h140⟩ | ⟨rfl, hmem, hpp, hvac, hfd⟩
          · have E1 := Lib.hid (ERR.out (fun hx => by have := (SX.out hx).1; cases this) h140)
            clear h140 ERR
            as_aux_lemma =>
              go_wp2_with (first | (refine build_ud0 rfl rfl ?_) | (refine store_ud rfl _ _ rfl U ud0 ud0 rfl rfl KU.out ?_; generalize wr.setRow U ud0.cs = w2 at *))
              refine bodyPost_ret (ud_tct rfl _ _ U ud0 KU2.out rfl) rfl ?_
              exact E1.out
          cases fd with
          | true =>
            have PM := HC'.out.mem hmem
            have PO := (HC'.out.page _ (mem_getD hmem).choose_spec.1).2.2.2.2.2
            rw [(mem_getD hmem).choose_spec.2, ← hpp] at PO
            have CC := Lib.hid (change_any V.out ad (by have := HN.out; omega) sl hvac.2.1 pp PO ⟨1, val⟩ (.inr ⟨.inl rfl, by have := HV.out; show val.size ≤ 34; omega⟩) (by have := HM.out; have := ML.out; have := GR.out; omega))
            have FR := Lib.hid (show sl < 6 ∧ ad < n ∧ (L ad sl).st ≠ 1 ∧ ¬ onK m f ((ad : Int) * 8 + (sl : Int)) ∧ pp.c sl = L ad sl ∧ ad ∈ ch' from by
              have h1 := (hvac.1 rfl).1
              have h2 : pp.c sl = L ad sl := by rw [hpp]; exact HC'.out.cell hmem hvac.2.1
              exact ⟨hvac.2.1, PM.2, by rw [← h2]; exact h1.1, h1.2, h2, hmem⟩)
            have HL := Lib.hid (show Hc (upd pg' ad (putC pp sl ⟨1, val⟩)) n ch' (putL L ad sl ⟨1, val⟩) by
              have := HC'.out.lay hmem hvac.2.1 ⟨1, val⟩ (.inr ⟨.inl rfl, by have := HV.out; show val.size ≤ 34; omega⟩)
              rw [← hpp] at this
              exact this)
            have a0 : wr.cell? ⟨A, 0, none⟩ = some (.int .i64 ad) := KA.out.cell 0
            have a1 : wr.cell? ⟨S, 0, none⟩ = some (.int .i64 sl) := KS.out.cell 0
            clear PM PO ERR hvac hfd hmem hpp KU2
            as_aux_lemma =>
              go_wp2_with (first | (refine load_page rfl _ rfl P pp rfl KP.out ?_) | (refine build_ce rfl 1 _ rfl val rfl ?_))
              refine CC.out.mono ?_
              rintro e w8 ⟨rfl, hsv, hg⟩
              have V8 := Lib.hid (hsv.alloc (.cells (udC ad sl (pp.c sl)).cs 72))
              have G8 := Lib.hid (only_alloc (only_trans G1.out hg) (.cells (udC ad sl (pp.c sl)).cs 72))
              have KA8 := Lib.hid ((KA.out.grown hg (fun e => NEA.out.2.1 (by injection e))).alloc (.cells (udC ad sl (pp.c sl)).cs 72))
              have KS8 := Lib.hid ((KS.out.grown hg (fun e => NES.out.2.1 (by injection e))).alloc (.cells (udC ad sl (pp.c sl)).cs 72))
              have KU7 := KU.out.grown hg (fun e => by have := SZ.out; have := NEG.out; injection e with e; omega)
              have KU8 := Lib.hid (KU7.alloc (.cells (udC ad sl (pp.c sl)).cs 72))
              have KW := Lib.hid (Bk.new w8 72 (udC ad sl (pp.c sl)).cs)
              obtain ⟨W, hW⟩ : ∃ W, W = w8.heap.size := ⟨_, rfl⟩
              rw [← hW] at KW
              have WZ := Lib.hid (show W ≠ U by have := KU7.lt; omega)
              clear hsv hg CC V G1 KA KS KP KF KK KU KU7 a0 a1 f0
              as_aux_lemma =>
                go_upto_region 19 with (refine store_ud_new rfl _ _ rfl (udC ad sl (pp.c sl)) rfl rfl ?_; rw [← hW]; clear hW; generalize w8.alloc (.cells (udC ad sl (pp.c sl)).cs 72) = w9 at *)
                have AU := Lib.hid (show A ≠ U ∧ S ≠ U by have := SZ.out; omega)
                refine wp_region_held (S := fun w' => Bk w' A 3 #[.int .i64 ad] ∧ Bk w' S 3 #[.int .i64 sl] ∧ Bk w' W 72 (udC ad sl (pp.c sl)).cs) (by kernel_rfl) ?_
                refine held_take (fuel := 6) (i := 0) 71 rfl rfl (by kernel_rfl) (by kernel_rfl) (by kernel_rfl) (fun _ _ _ h => h) (held_int _ rfl (by kernel_rfl) A ad rfl (fun w h => h.1)) ⟨KA8.out.drew, KS8.out.drew, KW.out.drew⟩ ?_
                refine held_take (fuel := 5) (i := 1) 72 rfl rfl (by kernel_rfl) (by kernel_rfl) (by kernel_rfl) (fun _ _ _ h => h) (held_int _ rfl (by kernel_rfl) S sl rfl (fun w h => h.2.1)) ⟨KA8.out.drew, KS8.out.drew, KW.out.drew⟩ ?_
                refine held_take (fuel := 4) (i := 3) 74 rfl rfl (by kernel_rfl) (by kernel_rfl) (by kernel_rfl) (fun _ _ _ h => h) (held_ud _ rfl (by kernel_rfl) W (udC ad sl (pp.c sl)) rfl (fun w h => h.2.2)) ⟨KA8.out.drew, KS8.out.drew, KW.out.drew⟩ ?_
                simp only [Act.put, Act.eval, List.setIfInBounds_toArray, List.set_cons_succ, List.set_cons_zero]
                refine held_ready (fuel := 3) 2 (by kernel_rfl) ?_
                refine held_call rfl (by kernel_rfl) 73 rfl 50 #[.int .i64 ad, .int .i64 sl] (by kernel_rfl) ?_
                refine (id_any ad sl (by have := FR.out; have := LN.out; omega) (by have := FR.out; omega) _).mono ?_
                rintro e wx ⟨rfl, rfl⟩
                refine ⟨_, rfl, ⟨KA8.out.drew, KS8.out.drew, KW.out.drew⟩, ?_⟩
                simp only [Act.put, Act.eval, List.setIfInBounds_toArray, List.set_cons_succ, List.set_cons_zero]
                refine held_take (fuel := 2) (i := 4) 8 rfl rfl (by kernel_rfl) (by kernel_rfl) (by kernel_rfl) (fun _ _ _ h => h) (held_assign _ rfl (by kernel_rfl)) ⟨KA8.out.drew, KS8.out.drew, KW.out.drew⟩ ?_
                simp only [Act.put, Act.eval, List.setIfInBounds_toArray, List.set_cons_succ, List.set_cons_zero]
                refine held_ready (fuel := 1) 5 (by kernel_rfl) ?_
                refine held_store_ud rfl _ _ rfl rfl (by kernel_rfl) U (udC ad sl (pp.c sl)) ud0 rfl rfl KU8.out.drew ⟨⟨row_far KA8.out.drew AU.out.1, row_far KS8.out.drew AU.out.2, row_far KW.out.drew WZ.out⟩, ?_⟩
                refine held_take (fuel := 0) (i := 6) 10 rfl rfl (by kernel_rfl) (by kernel_rfl) (by kernel_rfl) (fun _ _ _ h => h) (held_assign _ rfl (by kernel_rfl)) ⟨row_far KA8.out.drew AU.out.1, row_far KS8.out.drew AU.out.2, row_far KW.out.drew WZ.out⟩ ?_
                refine wpAnyH_done (by kernel_rfl) ?_ _
                simp only [Act.put, Act.eval, List.setIfInBounds_toArray, List.set_cons_succ, List.set_cons_zero]
                have FU := Lib.hid (show Bk (w9.drew.setRow U (udC ad sl (pp.c sl)).cs) U 72 (udC ad sl (pp.c sl)).cs from ud_bk KU8.out.drew)
                have FV := Lib.hid (show SV (w9.drew.setRow U (udC ad sl (pp.c sl)).cs) B g b gs r N (M' + 1) und (upd pg' ad (putC pp sl ⟨1, val⟩)) from V8.out.drew.grown (row := some U) (only_row w9.drew U _) (fun k hk => by cases hk; have := SZ.out; have := NEG.out; omega))
                have FG := Lib.hid (only_setRow (only_drew G8.out) (show w.heap.size ≤ U by have := SZ.out; omega) (udC ad sl (pp.c sl)).cs)
                generalize hWW : World.setRow _ U (udC ad sl (pp.c sl)).cs = wF
                have FU2 := Lib.hid (show Bk wF U 72 (udC ad sl (pp.c sl)).cs by rw [← hWW]; exact FU.out)
                have FV2 := Lib.hid (show SV wF B g b gs r N (M' + 1) und (upd pg' ad (putC pp sl ⟨1, val⟩)) by rw [← hWW]; exact FV.out)
                have FG2 := Lib.hid (show w.grownBy wF (some b) by rw [← hWW]; exact FG.out)
                clear hWW FU FV FG
                go_wp2
                refine bodyPost_ret (ud_tct rfl _ _ U (udC ad sl (pp.c sl)) FU2.out rfl) rfl ?_
                exact .inr (.inr ⟨ad, sl, HV.out, FR.out.1, FR.out.2.1, FR.out.2.2.1, FR.out.2.2.2.1, by rw [FR.out.2.2.2.2.1]; rfl, (fun hx => (SX.out hx).2.2), M' + 1, _, ch', FR.out.2.2.2.2.2, by have := ML.out; have := GR.out; omega, FV2.out, HL.out, FG2.out⟩)
          | false =>
            obtain ⟨had, hm0⟩ := hfd rfl
            have HM0 := Lib.hid hm0
            by_cases h4 : gr = 4
            · have E1 := Lib.hid (ERR.out (fun hx => by have := (SX.out hx).2.1; cases this) (fun hm => by have := (HM0.out hm).1; omega))
              subst h4
              clear ERR hvac hmem hpp hm0 hfd
              as_aux_lemma =>
                go_wp2_with (first | (refine build_ud0 rfl rfl ?_) | (refine store_ud rfl _ _ rfl U ud0 ud0 rfl rfl KU.out ?_; generalize wr.setRow U ud0.cs = w2 at *))
                refine bodyPost_ret (ud_tct rfl _ _ U ud0 KU2.out rfl) rfl ?_
                exact E1.out
            · have g4 : gr < 4 := by
                by_cases h5 : gr = 5
                · rcases H5.out h5 with h6 | h6
                  · cases h6
                  · cases h6
                · omega
              have GR4 := Lib.hid g4
              have gb : (gr : Int) < 4 := by omega
              have g4b : ((gr : Int) == 4) = false := by simp; omega
              have grb : gr < 9223372036854775807 := by omega
              have CG := grow_any V.out HN.out HC'.out (by have := HM.out; have := ML.out; omega)
              rw [← had] at CG
              rw [← hpp] at CG
              have CG := Lib.hid CG
              have a0 : wr.cell? ⟨A, 0, none⟩ = some (.int .i64 ad) := KA.out.cell 0
              clear ERR hvac hmem hpp hm0 hfd h4 had
              as_aux_lemma =>
                go_wp2_with (refine load_page rfl _ rfl P pp rfl KP.out ?_)
                refine CG.out.mono ?_
                rintro e w8 (⟨rfl, hful, hb⟩ | ⟨id, pg2, rfl, hid, hsv, hhc, hnew, hg⟩)
                · have KA8 := Lib.hid (KA.out.kept hb); have KP8 := Lib.hid (KP.out.kept hb); have KS8 := Lib.hid (KS.out.kept hb); have KF8 := Lib.hid (KF.out.kept hb); have KK8 := Lib.hid (KK.out.kept hb); have KU8 := Lib.hid (KU.out.kept hb)
                  have V8 := Lib.hid (V.out.kept hb); have G8 := Lib.hid (only_trans G1.out (only_below hb (some b)))
                  have FU := Lib.hid (show m = 0 → AllL ch L ∧ True from fun hm => by
                    obtain ⟨-, e2, e3⟩ := HM0.out hm
                    exact ⟨e3, trivial⟩)
                  clear hful hb CG a0
                  have a0 : w8.cell? ⟨A, 0, none⟩ = some (.int .i64 ad) := KA8.out.cell 0
                  have a1 : w8.frozen? ⟨A, 0, none⟩ = false := KA8.out.fz 0
                  have KA9 := Lib.hid (KA8.out.set 0 (.int .i64 0))
                  have KP9 := Lib.hid (KP8.out.far (p := ⟨A, 0, none⟩) (by show P ≠ A; have := SZ.out; omega) (.int .i64 0))
                  have KS9 := Lib.hid (KS8.out.far (p := ⟨A, 0, none⟩) (by show S ≠ A; have := SZ.out; omega) (.int .i64 0))
                  have KF9 := Lib.hid (KF8.out.far (p := ⟨A, 0, none⟩) (by show F ≠ A; have := SZ.out; omega) (.int .i64 0))
                  have KK9 := Lib.hid (KK8.out.far (p := ⟨A, 0, none⟩) (by show K ≠ A; have := SZ.out; omega) (.int .i64 0))
                  have KU9 := Lib.hid (KU8.out.far (p := ⟨A, 0, none⟩) (by show U ≠ A; have := SZ.out; omega) (.int .i64 0))
                  have V9 := Lib.hid (V8.out.grown (only_set (World.grownBy.but (below_grow0 w8) (some A)) 0 (.int .i64 0)) (fun k hk => by cases hk; exact NEA.out))
                  have G9 := Lib.hid (only_set_new G8.out (p := ⟨A, 0, none⟩) (by show w.heap.size ≤ A; have := SZ.out; omega) (.int .i64 0))
                  clear KA8 KP8 KS8 KF8 KK8 KU8 V8 G8 KA KP KS KF KK KU KU2 V G1 f0
                  as_aux_lemma =>
                    go_upto_region 13 with (refine store_page rfl _ _ rfl P Pg.zero pp rfl rfl KP9.out ?_; obtain ⟨w9, hw9⟩ : ∃ w9, w9 = w8.setCell ⟨A, 0, none⟩ (.int .i64 0) := ⟨_, rfl⟩; rw [← hw9] at KA9 KP9 KS9 KF9 KK9 KU9 V9 G9 ⊢; clear hw9 a0 a1)
                    have KAa := Lib.hid (row_far (cs := (Pg.zero : Pg).cs) KA9.out (show A ≠ P by have := SZ.out; omega))
                    have KPa := Lib.hid (row_bk (p := Pg.zero) KP9.out)
                    have KSa := Lib.hid (row_far (cs := (Pg.zero : Pg).cs) KS9.out (show S ≠ P by have := SZ.out; omega))
                    have KFa := Lib.hid (row_far (cs := (Pg.zero : Pg).cs) KF9.out (show F ≠ P by have := SZ.out; omega))
                    have KKa := Lib.hid (row_far (cs := (Pg.zero : Pg).cs) KK9.out (show K ≠ P by have := SZ.out; omega))
                    have KUa := Lib.hid (row_far (cs := (Pg.zero : Pg).cs) KU9.out (show U ≠ P by have := SZ.out; omega))
                    have Va := Lib.hid (V9.out.grown (only_row w9 P (Pg.zero : Pg).cs) (fun k hk => by cases hk; exact NEP.out))
                    have Ga := Lib.hid (only_setRow G9.out (show w.heap.size ≤ P by have := SZ.out; omega) (Pg.zero : Pg).cs)
                    generalize w9.setRow P (Pg.zero : Pg).cs = wa at *
                    clear KA9 KP9 KS9 KF9 KK9 KU9 V9 G9
                    have BA := Lib.hid (show Below B w wa from bl_grow (Below.refl _ _) Ga.out (fun j hj => by cases hj; exact BB.out) BL.out)
                    have CV := vacant_is Pg.zero 0 (by omega) (.slice ka m kc) m f wa (ks_of MM.out HK.out BA.out (Nat.le_trans BL.out Ga.out.size))
                    rw [show ((0 : Nat) : Int) = 0 from rfl] at CV
                    have CV := Lib.hid CV
                    have a0 : wa.cell? ⟨A, 0, none⟩ = some (.int .i64 0) := KAa.out.cell 0
                    have a1 : wa.cell? ⟨K, 0, none⟩ = some (.slice ka m kc) := KKa.out.cell 0
                    as_aux_lemma =>
                      go_wp2_with (refine load_page rfl _ rfl P Pg.zero rfl KPa.out ?_)
                      refine CV.out.mono ?_
                      rintro e wb ⟨sl2, fd2, rfl, hv2, hb2⟩
                      have KAb := Lib.hid (KAa.out.kept hb2); have KPb := Lib.hid (KPa.out.kept hb2); have KSb := Lib.hid (KSa.out.kept hb2); have KFb := Lib.hid (KFa.out.kept hb2); have KKb := Lib.hid (KKa.out.kept hb2); have KUb := Lib.hid (KUa.out.kept hb2)
                      have Vb := Lib.hid (Va.out.kept hb2); have Gb := Lib.hid (only_trans Ga.out (only_below hb2 (some b)))
                      have HV2 := Lib.hid hv2
                      clear hv2 hb2 CV KAa KPa KSa KFa KKa KUa Va Ga BA a0 a1
                      have c1 : wb.cell? ⟨S, 0, none⟩ = some (.int .i64 sl) := KSb.out.cell 0
                      have c2 : wb.frozen? ⟨S, 0, none⟩ = false := KSb.out.fz 0
                      have d1 : wb.cell? ⟨F, 0, none⟩ = some (.bool false) := KFb.out.cell 0
                      have d2 : wb.frozen? ⟨F, 0, none⟩ = false := KFb.out.fz 0
                      have sf : S ≠ F := by have := SZ.out; omega
                      have fs : F ≠ S := by have := SZ.out; omega
                      have far := Lib.hid (fun q t cs (hk : Bk wb q t cs) (h1 : q ≠ S) (h2 : q ≠ F) => show Bk ((wb.setCell ⟨S, 0, none⟩ (.int .i64 sl2)).setCell ⟨F, 0, none⟩ (.bool fd2)) q t cs from (hk.far (by exact h1) _).far (by exact h2) _)
                      have Sc := Lib.hid (show Bk ((wb.setCell ⟨S, 0, none⟩ (.int .i64 sl2)).setCell ⟨F, 0, none⟩ (.bool fd2)) S 3 #[.int .i64 sl2] from (KSb.out.set 0 _).far (by exact sf) _)
                      have Fc := Lib.hid (show Bk ((wb.setCell ⟨S, 0, none⟩ (.int .i64 sl2)).setCell ⟨F, 0, none⟩ (.bool fd2)) F 4 #[.bool fd2] from (KFb.out.far (by exact fs) _).set 0 _)
                      have Vc := Lib.hid ((Vb.out.grown (only_set (World.grownBy.but (below_grow0 wb) (some S)) 0 (.int .i64 sl2)) (fun k hk => by cases hk; exact NES.out)).grown (only_set (World.grownBy.but (below_grow0 _) (some F)) 0 (.bool fd2)) (fun k hk => by cases hk; exact NEF.out))
                      have Gc := Lib.hid (only_set_new (only_set_new Gb.out (p := ⟨S, 0, none⟩) (by show w.heap.size ≤ S; have := SZ.out; omega) (.int .i64 sl2)) (p := ⟨F, 0, none⟩) (by show w.heap.size ≤ F; have := SZ.out; omega) (.bool fd2))
                      have KAc := Lib.hid (far.out _ _ _ KAb.out (by have := SZ.out; omega) (by have := SZ.out; omega)); have KPc := Lib.hid (far.out _ _ _ KPb.out (by have := SZ.out; omega) (by have := SZ.out; omega)); have KKc := Lib.hid (far.out _ _ _ KKb.out (by have := SZ.out; omega) (by have := SZ.out; omega)); have KUc := Lib.hid (far.out _ _ _ KUb.out (by have := SZ.out; omega) (by have := SZ.out; omega))
                      clear KAb KPb KSb KFb KKb KUb Vb Gb far
                      go_wp2
                      go_roundw
                      case rel => exact ⟨gr + 1, 140, fd2, by have := GR4.out; omega, rfl, by go_num, ⟨0, Pg.zero, sl2, pg', ch', M', Vc.out, by have := ML.out; omega, HC'.out, KAc.out, KPc.out, Sc.out, Fc.out, KKc.out, KUc.out, Gc.out, (fun hx => by have := (SX.out hx).2.1; cases this), .inl ⟨rfl, FU.out⟩⟩, fun _ => .inl rfl⟩
                      case measure => have := GR4.out; simp [intOf]; omega
                · have KA8 := Lib.hid (KA.out.grown hg (fun e => NEA.out.2.1 (by injection e))); have KP8 := Lib.hid (KP.out.grown hg (fun e => NEP.out.2.1 (by injection e))); have KS8 := Lib.hid (KS.out.grown hg (fun e => NES.out.2.1 (by injection e))); have KF8 := Lib.hid (KF.out.grown hg (fun e => NEF.out.2.1 (by injection e)))
                  have KK8 := Lib.hid (KK.out.grown hg (fun e => by have := SZ.out; have := NEG.out; injection e with e; omega)); have KU8 := Lib.hid (KU.out.grown hg (fun e => by have := SZ.out; have := NEG.out; injection e with e; omega))
                  have V8 := Lib.hid hsv; have G8 := Lib.hid (only_trans G1.out hg)
                  have NEW := Lib.hid (show id < n ∧ Hc pg2 n (ch' ++ [id]) L ∧ pgK3 = pg2 id from ⟨hid, hhc, hnew.symm⟩)
                  clear hsv hhc hnew hg CG a0 hid
                  have a0 : w8.cell? ⟨A, 0, none⟩ = some (.int .i64 ad) := KA8.out.cell 0
                  have a1 : w8.frozen? ⟨A, 0, none⟩ = false := KA8.out.fz 0
                  have KA9 := Lib.hid (KA8.out.set 0 (.int .i64 (id : Nat)))
                  have KP9 := Lib.hid (KP8.out.far (p := ⟨A, 0, none⟩) (by show P ≠ A; have := SZ.out; omega) (.int .i64 (id : Nat)))
                  have KS9 := Lib.hid (KS8.out.far (p := ⟨A, 0, none⟩) (by show S ≠ A; have := SZ.out; omega) (.int .i64 (id : Nat)))
                  have KF9 := Lib.hid (KF8.out.far (p := ⟨A, 0, none⟩) (by show F ≠ A; have := SZ.out; omega) (.int .i64 (id : Nat)))
                  have KK9 := Lib.hid (KK8.out.far (p := ⟨A, 0, none⟩) (by show K ≠ A; have := SZ.out; omega) (.int .i64 (id : Nat)))
                  have KU9 := Lib.hid (KU8.out.far (p := ⟨A, 0, none⟩) (by show U ≠ A; have := SZ.out; omega) (.int .i64 (id : Nat)))
                  have V9 := Lib.hid (V8.out.grown (only_set (World.grownBy.but (below_grow0 w8) (some A)) 0 (.int .i64 (id : Nat))) (fun k hk => by cases hk; exact NEA.out))
                  have G9 := Lib.hid (only_set_new G8.out (p := ⟨A, 0, none⟩) (by show w.heap.size ≤ A; have := SZ.out; omega) (.int .i64 (id : Nat)))
                  clear KA8 KP8 KS8 KF8 KK8 KU8 V8 G8 KA KP KS KF KK KU KU2 V G1 f0
                  as_aux_lemma =>
                    go_upto_region 13 with (refine store_page rfl _ _ rfl P pgK3 pp rfl rfl KP9.out ?_; obtain ⟨w9, hw9⟩ : ∃ w9, w9 = w8.setCell ⟨A, 0, none⟩ (.int .i64 (id : Nat)) := ⟨_, rfl⟩; rw [← hw9] at KA9 KP9 KS9 KF9 KK9 KU9 V9 G9 ⊢; clear hw9 a0 a1)
                    have KAa := Lib.hid (row_far (cs := (pgK3 : Pg).cs) KA9.out (show A ≠ P by have := SZ.out; omega))
                    have KPa := Lib.hid (row_bk (p := pgK3) KP9.out)
                    have KSa := Lib.hid (row_far (cs := (pgK3 : Pg).cs) KS9.out (show S ≠ P by have := SZ.out; omega))
                    have KFa := Lib.hid (row_far (cs := (pgK3 : Pg).cs) KF9.out (show F ≠ P by have := SZ.out; omega))
                    have KKa := Lib.hid (row_far (cs := (pgK3 : Pg).cs) KK9.out (show K ≠ P by have := SZ.out; omega))
                    have KUa := Lib.hid (row_far (cs := (pgK3 : Pg).cs) KU9.out (show U ≠ P by have := SZ.out; omega))
                    have Va := Lib.hid (V9.out.grown (only_row w9 P (pgK3 : Pg).cs) (fun k hk => by cases hk; exact NEP.out))
                    have Ga := Lib.hid (only_setRow G9.out (show w.heap.size ≤ P by have := SZ.out; omega) (pgK3 : Pg).cs)
                    generalize w9.setRow P (pgK3 : Pg).cs = wa at *
                    clear KA9 KP9 KS9 KF9 KK9 KU9 V9 G9
                    have BA := Lib.hid (show Below B w wa from bl_grow (Below.refl _ _) Ga.out (fun j hj => by cases hj; exact BB.out) BL.out)
                    have CV := vacant_is pgK3 id (by have := NEW.out.1; have := LN.out; omega) (.slice ka m kc) m f wa (ks_of MM.out HK.out BA.out (Nat.le_trans BL.out Ga.out.size))
                    skip
                    have CV := Lib.hid CV
                    have a0 : wa.cell? ⟨A, 0, none⟩ = some (.int .i64 (id : Nat)) := KAa.out.cell 0
                    have a1 : wa.cell? ⟨K, 0, none⟩ = some (.slice ka m kc) := KKa.out.cell 0
                    as_aux_lemma =>
                      go_wp2_with (refine load_page rfl _ rfl P pgK3 rfl KPa.out ?_)
                      refine CV.out.mono ?_
                      rintro e wb ⟨sl2, fd2, rfl, hv2, hb2⟩
                      have KAb := Lib.hid (KAa.out.kept hb2); have KPb := Lib.hid (KPa.out.kept hb2); have KSb := Lib.hid (KSa.out.kept hb2); have KFb := Lib.hid (KFa.out.kept hb2); have KKb := Lib.hid (KKa.out.kept hb2); have KUb := Lib.hid (KUa.out.kept hb2)
                      have Vb := Lib.hid (Va.out.kept hb2); have Gb := Lib.hid (only_trans Ga.out (only_below hb2 (some b)))
                      have HV2 := Lib.hid hv2
                      clear hv2 hb2 CV KAa KPa KSa KFa KKa KUa Va Ga BA a0 a1
                      have c1 : wb.cell? ⟨S, 0, none⟩ = some (.int .i64 sl) := KSb.out.cell 0
                      have c2 : wb.frozen? ⟨S, 0, none⟩ = false := KSb.out.fz 0
                      have d1 : wb.cell? ⟨F, 0, none⟩ = some (.bool false) := KFb.out.cell 0
                      have d2 : wb.frozen? ⟨F, 0, none⟩ = false := KFb.out.fz 0
                      have sf : S ≠ F := by have := SZ.out; omega
                      have fs : F ≠ S := by have := SZ.out; omega
                      have far := Lib.hid (fun q t cs (hk : Bk wb q t cs) (h1 : q ≠ S) (h2 : q ≠ F) => show Bk ((wb.setCell ⟨S, 0, none⟩ (.int .i64 sl2)).setCell ⟨F, 0, none⟩ (.bool fd2)) q t cs from (hk.far (by exact h1) _).far (by exact h2) _)
                      have Sc := Lib.hid (show Bk ((wb.setCell ⟨S, 0, none⟩ (.int .i64 sl2)).setCell ⟨F, 0, none⟩ (.bool fd2)) S 3 #[.int .i64 sl2] from (KSb.out.set 0 _).far (by exact sf) _)
                      have Fc := Lib.hid (show Bk ((wb.setCell ⟨S, 0, none⟩ (.int .i64 sl2)).setCell ⟨F, 0, none⟩ (.bool fd2)) F 4 #[.bool fd2] from (KFb.out.far (by exact fs) _).set 0 _)
                      have Vc := Lib.hid ((Vb.out.grown (only_set (World.grownBy.but (below_grow0 wb) (some S)) 0 (.int .i64 sl2)) (fun k hk => by cases hk; exact NES.out)).grown (only_set (World.grownBy.but (below_grow0 _) (some F)) 0 (.bool fd2)) (fun k hk => by cases hk; exact NEF.out))
                      have Gc := Lib.hid (only_set_new (only_set_new Gb.out (p := ⟨S, 0, none⟩) (by show w.heap.size ≤ S; have := SZ.out; omega) (.int .i64 sl2)) (p := ⟨F, 0, none⟩) (by show w.heap.size ≤ F; have := SZ.out; omega) (.bool fd2))
                      have KAc := Lib.hid (far.out _ _ _ KAb.out (by have := SZ.out; omega) (by have := SZ.out; omega)); have KPc := Lib.hid (far.out _ _ _ KPb.out (by have := SZ.out; omega) (by have := SZ.out; omega)); have KKc := Lib.hid (far.out _ _ _ KKb.out (by have := SZ.out; omega) (by have := SZ.out; omega)); have KUc := Lib.hid (far.out _ _ _ KUb.out (by have := SZ.out; omega) (by have := SZ.out; omega))
                      clear KAb KPb KSb KFb KKb KUb Vb Gb far
                      go_wp2
                      go_roundw
                      case rel => exact ⟨gr + 1, 0, fd2, by have := GR4.out; omega, rfl, by go_num, ⟨id, pgK3, sl2, pg2, ch' ++ [id], M' + 3, Vc.out, by have := ML.out; omega, NEW.out.2.1, KAc.out, KPc.out, Sc.out, Fc.out, KKc.out, KUc.out, Gc.out, (fun hx => by have := (SX.out hx).2.1; cases this), .inr ⟨rfl, by simp, NEW.out.2.2, HV2.out, fun hfd2 => ⟨(last_app ch' id).symm, fun hm => absurd (by subst hm; exact free_blank id f) (HV2.out.2.2 hfd2 0 (by omega))⟩⟩⟩, fun h => by have := GR4.out; omega⟩
                      case measure => have := GR4.out; simp [intOf]; omega
end Go.Proofs.YtelbioooggnbiaaGreat
namespace Go.Proofs.YtelbioooggnbiaaGreat
open Go.RowKit Go.Maps

set_option maxRecDepth 100000 in
set_option maxHeartbeats 4000000 in
theorem walk_err {w : World} {B g b gs r N M n : Nat} {und pg : Nat → Pg} {st : Nat → Int} {kd rt : Nat → Nat} {ow : Nat → Option Int} (hs : SV w B g b gs r N M und pg) (hv : Vol pg n st kd rt ow) (hbad : ¬ (kd 0 = 1 ∧ st 0 = 1)) (v : Value) :
    Calls Tryz.prog 45 #[.pointer (some ⟨g, 0, none⟩), .int .i64 1, v] w fun e w' => ∃ er : Int, er ≠ 0 ∧ e = .returned (.int .i64 er) ∧ Below w.heap.size w w' := by
  have CF := Lib.hid (find_vol hs hv 1)
  have BAD := Lib.hid hbad
  clear hs hv hbad
  go_enter Tryz.func45, Tryz.ntmps45
  go_wp2_with fail
  refine CF.out.mono ?_
  rintro e w1 (⟨hx, rfl, hb⟩ | ⟨-, rfl, hb⟩)
  · have BB := Lib.hid hb
    clear hb CF BAD
    go_wp2
    go_ret
    exact ⟨_, by decide, rfl, BB.out⟩
  · rw [show ((1 : Int) - 1).toNat = 0 from rfl]
    have BB := Lib.hid hb
    clear hb CF
    by_cases hk : kd 0 = 1
    · have h1 : ¬ st 0 = 1 := fun h => BAD.out ⟨hk, h⟩
      have h1b : (st 0 != 1) = true := by simp [h1]
      have hkb : ((kd 0 : Int) != 1) = false := by rw [hk]; rfl
      clear BAD
      go_wp2
      go_ret
      exact ⟨_, by decide, rfl, BB.out⟩
    · have hkb : ((kd 0 : Int) != 1) = true := by simp; omega
      clear BAD
      go_wp2
      go_ret
      exact ⟨_, by decide, rfl, BB.out⟩

set_option maxRecDepth 100000 in
set_option maxHeartbeats 8000000 in
theorem seek_err {w : World} {B g b gs r N M n : Nat} {und pg : Nat → Pg} {st : Nat → Int} {kd rt : Nat → Nat} {ow : Nat → Option Int} (hs : SV w B g b gs r N M und pg) (hv : Vol pg n st kd rt ow) (hbad : ¬ (kd 0 = 1 ∧ st 0 = 1)) (id : Int) (hid : -9223372036854775808 ≤ id ∧ id ≤ 9223372036854775807) :
    Calls Tryz.prog 51 #[.pointer (some ⟨g, 0, none⟩), .int .i64 1, .int .i64 id] w fun e w' => ∃ er : Int, er ≠ 0 ∧ e = .returned (.tuple #[.agg Pg.zero.cs, .int .i64 0, .int .i64 er]) ∧ Below w.heap.size w w' := by
  have HV := Lib.hid hs
  have CW0 := Lib.hid (fun (w' : World) (h : SV w' B g b gs r N M und pg) (v : Value) => walk_err h hv hbad v)
  obtain ⟨tm, htm⟩ : ∃ tm, tm = id.tmod 8 := ⟨_, rfl⟩
  have TM := Lib.hid htm
  have w8 : wrap64 tm = tm := by
    have h1 : id.tmod 8 < 8 := Int.tmod_lt_of_pos id (by omega)
    have h2 : -8 < id.tmod 8 := by have := Int.lt_tmod_of_pos id (b := 8) (by omega); omega
    rw [htm]; unfold wrap64; omega
  clear hs hv hbad htm
  go_enter Tryz.func51, Tryz.ntmps51
  go_upto_region 3 with fail
  change Code.wp _ _ _ _ (((((w.alloc (.cells #[.int .i64 id] 3)).alloc (.cells Pg.zero.cs 38)).alloc (.cells Pg.zero.cs 38)).alloc (.cells #[.int .i64 (id.tmod 8)] 3)).alloc (.cells #[.bool false] 4))
  have KR := Lib.hid ((((Bk.new2 w (.cells #[.int .i64 id] 3) 38 Pg.zero.cs).alloc (.cells Pg.zero.cs 38)).alloc (.cells #[.int .i64 (id.tmod 8)] 3)).alloc (.cells #[.bool false] 4))
  have V5 := Lib.hid (((((HV.out.alloc (.cells #[.int .i64 id] 3)).alloc (.cells Pg.zero.cs 38)).alloc (.cells Pg.zero.cs 38)).alloc (.cells #[.int .i64 (id.tmod 8)] 3)).alloc (.cells #[.bool false] 4))
  have B5 := Lib.hid (show Below w.heap.size w (((((w.alloc (.cells #[.int .i64 id] 3)).alloc (.cells Pg.zero.cs 38)).alloc (.cells Pg.zero.cs 38)).alloc (.cells #[.int .i64 (id.tmod 8)] 3)).alloc (.cells #[.bool false] 4)) from
    (((((Below.refl _ _).alloc (Nat.le_refl _) _).alloc (by simp) _).alloc (by simp; omega) _).alloc (by simp; omega) _).alloc (by simp; omega) _)
  obtain ⟨w5, hw5⟩ : ∃ w5, w5 = (((((w.alloc (.cells #[.int .i64 id] 3)).alloc (.cells Pg.zero.cs 38)).alloc (.cells Pg.zero.cs 38)).alloc (.cells #[.int .i64 (id.tmod 8)] 3)).alloc (.cells #[.bool false] 4)) := ⟨_, rfl⟩
  rw [← hw5] at KR V5 B5 ⊢
  clear hw5
  obtain ⟨R, hR⟩ : ∃ R, R = w.heap.size + 1 := ⟨_, rfl⟩
  rw [← hR] at KR ⊢
  have SZ := Lib.hid (show R = w.heap.size + 1 from hR)
  have CW := Lib.hid (fun v => CW0.out w5 V5.out v)
  clear hR HV CW0 V5
  as_aux_lemma =>
    go_wp2_with fail
    refine (CW.out _).mono ?_
    rintro e w6 ⟨er, hne, rfl, hb⟩
    have h0 : (er == 0) = false := by simp [hne]
    have h1 : (er != 0) = true := by simp [hne]
    have NE := Lib.hid hne
    have R6 := Lib.hid (KR.out.kept hb)
    have B6 := below_then B5.out hb B5.out.size
    have BR := Lib.hid (below_row (cs := Pg.zero.cs) B6 (show w.heap.size ≤ R by have := SZ.out; omega))
    clear hne hb B6 CW B5 KR
    go_wp2_with (first | (refine build_pg0 rfl rfl ?_) | (refine store_page rfl _ _ rfl R Pg.zero Pg.zero rfl rfl R6.out ?_))
    refine bodyPost_ret (page_ctt rfl _ _ R Pg.zero.cs (row_bk R6.out) rfl rfl) rfl ?_
    exact ⟨er, NE.out, rfl, BR.out⟩
set_option maxRecDepth 100000 in
set_option maxHeartbeats 8000000 in
theorem delete_err {w : World} {B g b gs r N M n : Nat} {und pg : Nat → Pg} {st : Nat → Int} {kd rt : Nat → Nat} {ow : Nat → Option Int} (hs : SV w B g b gs r N M und pg) (hv : Vol pg n st kd rt ow) (hbad : ¬ (kd 0 = 1 ∧ st 0 = 1)) (id : Int) (hid : -9223372036854775808 ≤ id ∧ id ≤ 9223372036854775807) :
    Calls Tryz.prog 25 #[.pointer (some ⟨g, 0, none⟩), .int .i64 1, .int .i64 id] w fun e w' => ∃ er : Int, er ≠ 0 ∧ e = .returned (.tuple #[.agg ud0.cs, .int .i64 er]) ∧ Below w.heap.size w w' := by
  obtain ⟨R, hR⟩ : ∃ R, R = w.heap.size := ⟨_, rfl⟩
  have KR := Lib.hid (Bk.new w 72 ud0.cs)
  have V1 := Lib.hid (hs.alloc (.cells ud0.cs 72))
  have G1 := Lib.hid (World.grownBy_alloc w (.cells ud0.cs 72) none)
  rw [← hR] at KR
  have SZ := Lib.hid hR
  have CS := Lib.hid (seek_err V1.out hv hbad id hid)
  clear hs hv hbad hid
  go_enter Tryz.func25, Tryz.ntmps25
  go_upto_region 1 with fail
  rw [← hR]
  change Code.wp _ _ _ _ (w.alloc (.cells ud0.cs 72))
  generalize w.alloc (.cells ud0.cs 72) = w1 at *
  clear hR V1
  as_aux_lemma =>
    go_wp2_with fail
    refine CS.out.mono ?_
    rintro e w2 ⟨er, hne, rfl, hb⟩
    have h1 : (er != 0) = true := by simp [hne]
    have NE := Lib.hid hne
    have hbb := hb.alloc hb.size (.cells Pg.zero.cs 38)
    have G2 := Lib.hid (only_trans G1.out (only_below hbb none))
    have KR2 := Lib.hid (KR.out.kept hbb)
    have KR3 := Lib.hid (ud_bk (p := ud0) KR2.out)
    have B3 := Lib.hid (below_only (only_setRow G2.out (show w.heap.size ≤ R by have := SZ.out; omega) ud0.cs))
    clear hb hbb CS G1 KR hne
    dsimp only
    as_aux_lemma =>
      go_upto_region 2 with (refine store_page_new rfl _ _ rfl Pg.zero rfl rfl ?_; generalize w2.alloc (.cells Pg.zero.cs 38) = w3 at *)
      go_wp2_with (first | (refine build_ud0 rfl rfl ?_) | (refine store_ud rfl _ _ rfl R ud0 ud0 rfl rfl KR2.out ?_; generalize w3.setRow R ud0.cs = w4 at *))
      refine bodyPost_ret (ud_ct rfl _ _ R ud0 KR3.out rfl) rfl ?_
      exact ⟨er, NE.out, rfl, B3.out⟩
set_option maxRecDepth 100000 in
set_option maxHeartbeats 6000000 in
theorem insert_err {w : World} {B g b gs r N M n : Nat} {und pg : Nat → Pg} {st : Nat → Int} {kd rt : Nat → Nat} {ow : Nat → Option Int} (hs : SV w B g b gs r N M und pg) (hv0 : Vol pg n st kd rt ow) (hbad : ¬ (kd 0 = 1 ∧ st 0 = 1)) (val : ByteArray) (ka : Option Addr) (m kc : Nat) :
    Calls Tryz.prog 24 #[.pointer (some ⟨g, 0, none⟩), .int .i64 1, .string val, .slice ka m kc] w fun e w' => ∃ er : Int, er ≠ 0 ∧ e = .returned (.tuple #[.int .i64 0, .agg ud0.cs, .int .i64 er]) ∧ Below w.heap.size w w' := by
  have V0 := Lib.hid hs
  have CW0 := Lib.hid (fun (w' : World) (h : SV w' B g b gs r N M und pg) (v : Value) => walk_err h hv0 hbad v)
  clear hs hv0 hbad
  go_enter Tryz.func24, Tryz.ntmps24
  go_upto_region 1 with fail
  change Code.wp _ _ _ _ ((w.alloc (.cells #[.slice ka m kc] 45)).alloc (.cells ud0.cs 72))
  by_cases hv : (32 : Int) < (val.size : Int)
  · have KU := Lib.hid (Bk.new2 w (.cells #[.slice ka m kc] 45) 72 ud0.cs)
    have G1 := Lib.hid (only_alloc (World.grownBy_alloc w (.cells #[.slice ka m kc] 45) none) (.cells ud0.cs 72))
    generalize (w.alloc (.cells #[.slice ka m kc] 45)).alloc (.cells ud0.cs 72) = w1 at *
    obtain ⟨U, hU⟩ : ∃ U, U = w.heap.size + 1 := ⟨_, rfl⟩
    rw [← hU] at KU ⊢
    have KU2 := Lib.hid (ud_bk (p := ud0) KU.out)
    have B2 := Lib.hid (below_only (only_setRow G1.out (show w.heap.size ≤ U by omega) ud0.cs))
    clear V0 G1 hU
    go_wp2_with (first | (refine build_ud0 rfl rfl ?_) | (refine store_ud rfl _ _ rfl U ud0 ud0 rfl rfl KU.out ?_; generalize w1.setRow U ud0.cs = w2 at *))
    refine bodyPost_ret (ud_tct rfl _ _ U ud0 KU2.out rfl) rfl ?_
    exact ⟨2, by decide, rfl, B2.out⟩
  have hvn : ¬ 32 < val.size := by omega
  as_aux_lemma =>
    go_upto_region 6 with fail
    change Code.wp _ _ _ _ ((((((w.alloc (.cells #[.slice ka m kc] 45)).alloc (.cells ud0.cs 72)).alloc (.cells #[.int .i64 0] 3)).alloc (.cells #[.int .i64 0] 3)).alloc (.cells Pg.zero.cs 38)).alloc (.cells #[.bool false] 4))
    have KU := Lib.hid (((((Bk.new2 w (.cells #[.slice ka m kc] 45) 72 ud0.cs).alloc (.cells #[.int .i64 0] 3)).alloc (.cells #[.int .i64 0] 3)).alloc (.cells Pg.zero.cs 38)).alloc (.cells #[.bool false] 4))
    have KF := Lib.hid (bk_at (w := (((((w.alloc (.cells #[.slice ka m kc] 45)).alloc (.cells ud0.cs 72)).alloc (.cells #[.int .i64 0] 3)).alloc (.cells #[.int .i64 0] 3)).alloc (.cells Pg.zero.cs 38))) (k := w.heap.size + 1 + 1 + 1 + 1 + 1) (by simp) 4 #[.bool false])
    have V6 := Lib.hid ((((((V0.out.alloc (.cells #[.slice ka m kc] 45)).alloc (.cells ud0.cs 72)).alloc (.cells #[.int .i64 0] 3)).alloc (.cells #[.int .i64 0] 3)).alloc (.cells Pg.zero.cs 38)).alloc (.cells #[.bool false] 4))
    have G6 := Lib.hid (only_alloc (only_alloc (only_alloc (only_alloc (only_alloc (World.grownBy_alloc w (.cells #[.slice ka m kc] 45) none) (.cells ud0.cs 72)) (.cells #[.int .i64 0] 3)) (.cells #[.int .i64 0] 3)) (.cells Pg.zero.cs 38)) (.cells #[.bool false] 4))
    obtain ⟨w6, hw6⟩ : ∃ w6, w6 = ((((((w.alloc (.cells #[.slice ka m kc] 45)).alloc (.cells ud0.cs 72)).alloc (.cells #[.int .i64 0] 3)).alloc (.cells #[.int .i64 0] 3)).alloc (.cells Pg.zero.cs 38)).alloc (.cells #[.bool false] 4)) := ⟨_, rfl⟩
    rw [← hw6] at KU KF V6 G6 ⊢
    clear hw6 V0
    obtain ⟨F, hF⟩ : ∃ F, F = w.heap.size + 1 + 1 + 1 + 1 + 1 := ⟨_, rfl⟩
    rw [← hF] at KF ⊢
    obtain ⟨U, hU⟩ : ∃ U, U = w.heap.size + 1 := ⟨_, rfl⟩
    rw [← hU] at KU ⊢
    have SZ := Lib.hid (show U = w.heap.size + 1 from hU)
    clear hF hU
    have CW := Lib.hid (fun v => CW0.out w6 V6.out v)
    clear CW0 V6
    as_aux_lemma =>
      go_wp2_with fail
      refine (CW.out _).mono ?_
      rintro e w7 ⟨er, hne, rfl, hb⟩
      have h0 : (er == 0) = false := by simp [hne]
      have h1 : (er != 0) = true := by simp [hne]
      have NE := Lib.hid hne
      have KU7 := Lib.hid (KU.out.kept hb)
      have KF7 := Lib.hid (KF.out.kept hb)
      have f0 : w7.cell? ⟨F, 0, none⟩ = some (.bool false) := KF7.out.cell 0
      have KU8 := Lib.hid (ud_bk (p := ud0) KU7.out)
      have B8 := Lib.hid (below_only (only_setRow (only_trans G6.out (only_below hb none)) (show w.heap.size ≤ U by have := SZ.out; omega) ud0.cs))
      clear hne hb CW KU KF G6
      as_aux_lemma =>
        go_wp2_with fail
        go_loopw [15, 16] (fun e i wr => e = .int .i64 er ∧ i = .int .i64 0 ∧ wr = w7) (fun _ _ _ => 0)
        case atStart => exact ⟨rfl, rfl, rfl⟩
        case round =>
          obtain ⟨rfl, rfl, rfl⟩ := hrel
          go_wp2_with (first | (refine build_ud0 rfl rfl ?_) | (refine store_ud rfl _ _ rfl U ud0 ud0 rfl rfl KU7.out ?_; generalize World.setRow _ U ud0.cs = w2 at *))
          refine bodyPost_ret (ud_tct rfl _ _ U ud0 KU8.out rfl) rfl ?_
          exact ⟨er, NE.out, rfl, B8.out⟩
end Go.Proofs.YtelbioooggnbiaaGreat
