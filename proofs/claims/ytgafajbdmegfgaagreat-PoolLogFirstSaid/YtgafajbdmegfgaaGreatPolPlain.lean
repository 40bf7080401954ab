/- Layer 12, plain: slots, a pool, and what the device has of its pages. -/
import Derived.Test.YtgafajbdmegfgaaGreatWalFlush
import Derived.Test.YtgafajbdmegfgaaGreatFramePlain
import Derived.Test.YtgafajbdmegfgaaGreatPgEnc
import Derived.Test.YtgafajbdmegfgaaGreatPgDecPlain
set_option linter.unusedVariables false
set_option linter.unusedSimpArgs false
namespace Go.Proofs.YtgafajbdmegfgaaGreat
open Go.RowKit

/-- A slot. -/
structure Sl where
  id : Int
  p : Pg
  st : Nat
  di : Bool
  us : Bool
def Sl.cs (s : Sl) : Array Value := (Value.int .i64 s.id :: (s.p.cs.toList ++ [.int .i64 (s.st : Int), .bool s.di, .bool s.us])).toArray
theorem Sl.cs_size (s : Sl) : s.cs.size = 20 := rfl
/-- A slot that nobody has had. -/
def Sl.fresh : Sl := ⟨-1, Pg.zero, 0, false, false⟩
/-- A pool: where its pages begin, how many they are, how many frames; the slots, the hand. -/
structure Po where
  base : Nat
  pages : Nat
  frames : Nat
  ss : List Sl
  hand : Nat
structure Po.ok (P : Po) : Prop where
  b0 : P.base ≤ 16384
  p1 : 1 ≤ P.pages
  p2 : P.pages ≤ 1024
  f1 : 4 ≤ P.frames
  f2 : P.frames ≤ 256
  len : P.ss.length ≤ P.frames
  hand : P.hand = 0 ∨ P.hand < P.ss.length
  ids : ∀ s ∈ P.ss, s.id = -1 ∨ (0 ≤ s.id ∧ s.id < P.pages)
  stb : ∀ s ∈ P.ss, s.st ≤ 9223372036854775807
  one : ∀ i j (hi : i < P.ss.length) (hj : j < P.ss.length), i ≠ j → (P.ss[i]).id = (P.ss[j]).id → (P.ss[i]).id = -1
theorem Po.ok.set {P : Po} (h : P.ok) {j : Nat} (hj : j < P.ss.length) (s : Sl) (h1 : s.id = -1 ∨ (0 ≤ s.id ∧ s.id < P.pages)) (h2 : s.st ≤ 9223372036854775807) (h3 : ∀ i (hi : i < P.ss.length), i ≠ j → (P.ss[i]).id = s.id → s.id = -1) : Po.ok { P with ss := P.ss.set j s } where
  b0 := h.b0
  p1 := h.p1
  p2 := h.p2
  f1 := h.f1
  f2 := h.f2
  len := by simpa using h.len
  hand := by simpa using h.hand
  ids := fun x hx => by
    rcases List.mem_or_eq_of_mem_set hx with hx | rfl
    · exact h.ids x hx
    · exact h1
  stb := fun x hx => by
    rcases List.mem_or_eq_of_mem_set hx with hx | rfl
    · exact h.stb x hx
    · exact h2
  one := fun a b ha hb hab e => by
    have ha' : a < P.ss.length := by simpa using ha
    have hb' : b < P.ss.length := by simpa using hb
    by_cases e1 : a = j
    · subst e1
      have h4 : (P.ss.set a s)[b]'hb = P.ss[b] := List.getElem_set_ne hab _
      have h5 : (P.ss.set a s)[a]'ha = s := List.getElem_set_self _
      change ((P.ss.set a s)[a]'ha).id = ((P.ss.set a s)[b]'hb).id at e
      show ((P.ss.set a s)[a]'ha).id = -1
      rw [h5, h4] at e
      rw [h5]
      exact h3 b hb' (Ne.symm hab) e.symm
    · have h4 : (P.ss.set j s)[a]'ha = P.ss[a] := List.getElem_set_ne (Ne.symm e1) _
      change ((P.ss.set j s)[a]'ha).id = ((P.ss.set j s)[b]'hb).id at e
      show ((P.ss.set j s)[a]'ha).id = -1
      rw [h4] at e ⊢
      by_cases e2 : b = j
      · subst e2
        have h5 : (P.ss.set b s)[b]'hb = s := List.getElem_set_self _
        rw [h5] at e
        rw [e]
        exact h3 a ha' e1 e
      · have h5 : (P.ss.set j s)[b]'hb = P.ss[b] := List.getElem_set_ne (Ne.symm e2) _
        rw [h5] at e
        exact h.one a b ha' hb' hab e
/-- The first slot of a page. -/
def findL (id : Int) : List Sl → Int
  | [] => -1
  | s :: l => if s.id = id then 0 else if findL id l < 0 then -1 else findL id l + 1
theorem findL_no {id : Int} : ∀ {l : List Sl}, (∀ s ∈ l, s.id ≠ id) → findL id l = -1
  | [], _ => rfl
  | s :: l, h => by
    unfold findL
    rw [if_neg (h s List.mem_cons_self), findL_no (fun x hx => h x (List.mem_cons_of_mem _ hx))]
    rfl
theorem findL_at {id : Int} : ∀ {l : List Sl} (j : Nat) (hj : j < l.length), (l[j]).id = id → (∀ i (hi : i < j), (l[i]'(Nat.lt_trans hi hj)).id ≠ id) → findL id l = (j : Int)
  | [], j, hj, _, _ => absurd hj (Nat.not_lt_zero j)
  | s :: l, 0, _, h, _ => by unfold findL; exact if_pos h
  | s :: l, j + 1, hj, h, hn => by
    unfold findL
    have h0 : s.id ≠ id := hn 0 (Nat.succ_pos j)
    have h1 := findL_at (l := l) (id := id) j (by simpa using hj) h (fun i hi => hn (i + 1) (Nat.succ_lt_succ hi))
    rw [if_neg h0, h1, if_neg (by omega)]
    omega
/-- What was found. -/
theorem findL_cases (id : Int) (l : List Sl) : (findL id l = -1 ∧ ∀ s ∈ l, s.id ≠ id) ∨ ∃ (j : Nat) (hj : j < l.length), findL id l = (j : Int) ∧ (l[j]).id = id ∧ ∀ i (hi : i < j), (l[i]'(Nat.lt_trans hi hj)).id ≠ id := by
  induction l with
  | nil => exact .inl ⟨rfl, fun s hs => absurd hs List.not_mem_nil⟩
  | cons s l ih =>
    by_cases h : s.id = id
    · exact .inr ⟨0, by simp, by unfold findL; exact if_pos h, h, fun i hi => absurd hi (Nat.not_lt_zero i)⟩
    · rcases ih with ⟨h1, h2⟩ | ⟨j, hj, h1, h2, h3⟩
      · refine .inl ⟨by unfold findL; rw [if_neg h, h1]; rfl, fun x hx => ?_⟩
        rcases List.mem_cons.1 hx with rfl | hx
        · exact h
        · exact h2 x hx
      · refine .inr ⟨j + 1, by simpa using hj, by unfold findL; rw [if_neg h, h1, if_neg (by omega)]; omega, h2, fun i hi => ?_⟩
        cases i with
        | zero => exact h
        | succ i => exact h3 i (Nat.lt_of_succ_lt_succ hi)
/-- Slots that are the same but for what was used. -/
def likeS (a b : Sl) : Prop := a.id = b.id ∧ a.p = b.p ∧ a.st = b.st ∧ a.di = b.di
/-- A slot that can be had: what comes of the pool. -/
structure Sp (P P' : Po) (i : Nat) (ok : Bool) : Prop where
  base : P'.base = P.base
  pages : P'.pages = P.pages
  frames : P'.frames = P.frames
  lt : i < P'.ss.length ∨ ok = false
  hl : ok = false → P'.hand < P'.ss.length ∧ P'.ss.length = P.frames
  same : ∀ j (hj : j < P.ss.length), ∃ (hj' : j < P'.ss.length), likeS (P'.ss[j]) (P.ss[j])
  new : P'.ss.length = P.ss.length ∨ (P'.ss.length = P.ss.length + 1 ∧ ok = true ∧ i = P.ss.length ∧ P'.ss[P.ss.length]? = some Sl.fresh)
  free : ok = true → ∀ (hi : i < P'.ss.length), (P'.ss[i]).di = false
  full : ok = false → ∀ j (hj : j < P'.ss.length), (P'.ss[j]).di = true
  ok' : P'.ok
/-- A slot's sector. -/
def Sl.sec (s : Sl) (k : Nat) : ByteArray := Fr.sec s.p.bytes (Fr.mk s.st) k
/-- The writes of a slot's page, from the sector k on. -/
def Sl.wr (s : Sl) (base : Nat) : Nat → Nat → Dsk → Dsk × Int
  | 0, _, S => (S, 0)
  | m + 1, k, S => if (S.write ((base + 4 * s.id.toNat + k : Nat) : Int) (s.sec k)).2 = 0 then s.wr base m (k + 1) (S.write ((base + 4 * s.id.toNat + k : Nat) : Int) (s.sec k)).1 else S.write ((base + 4 * s.id.toNat + k : Nat) : Int) (s.sec k)
/-- A slot's page on its way to the device, behind its record. -/
def Sl.flush (s : Sl) (base : Nat) (L : Lg) (S : Dsk) : Lg × Dsk × Int :=
  if (L.flush S (s.st : Int)).2.2 = 0 then ((L.flush S (s.st : Int)).1, s.wr base 4 0 (L.flush S (s.st : Int)).2.1) else L.flush S (s.st : Int)
theorem write_pend' (S : Dsk) (i : Int) (d : ByteArray) : (S.write i d).1.pend.length ≤ S.pend.length + 1 := write_pend S i d
theorem Sl.wr_pend (s : Sl) (base : Nat) : ∀ (m k : Nat) (S : Dsk), (s.wr base m k S).1.pend.length ≤ S.pend.length + m
  | 0, _, S => Nat.le_refl _
  | m + 1, k, S => by
    unfold Sl.wr
    have h1 := write_pend S ((base + 4 * s.id.toNat + k : Nat) : Int) (s.sec k)
    split
    · have := Sl.wr_pend s base m (k + 1) (S.write ((base + 4 * s.id.toNat + k : Nat) : Int) (s.sec k)).1
      omega
    · omega
end Go.Proofs.YtgafajbdmegfgaaGreat
