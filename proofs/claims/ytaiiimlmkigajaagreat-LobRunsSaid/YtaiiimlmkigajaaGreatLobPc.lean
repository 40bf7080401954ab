/- Layer 17: the keys of an object's pieces, told plainly. Layer 17: Key. Layer 17: slice. Layer 17: steps. Layer 17: a volume of objects, as its calls take it. Layer 17: pieces. -/
import Derived.Test.YtaiiimlmkigajaaGreatTrPtP
import Derived.Test.YtaiiimlmkigajaaGreatSpcBit
import Derived.Great.BuildSlice
import Derived.Laws.IdiomStrings
import Derived.Laws.BytesString
import Derived.Deep.AppendLies
import Derived.BigQuiet
import Derived.Test.YtaiiimlmkigajaaGreatKept
set_option linter.unusedVariables false
set_option linter.unusedSimpArgs false
namespace Go.Proofs.YtaiiimlmkigajaaGreat
open Go.RowKit Go.Maps

def by8 (x : Int) : UInt8 := UInt8.ofNat (x % 256).toNat
theorem by8_nat (x : Int) : (by8 x).toNat = (x % 256).toNat := by
  unfold by8
  rw [UInt8.toNat_ofNat']
  omega
/-- A piece's key: both numbers, the higher byte first. -/
def lkey (n p : Int) : ByteArray := ⟨#[by8 (n / 256), by8 n, by8 (p / 256), by8 p]⟩
theorem lkey_size (n p : Int) : (lkey n p).size = 4 := rfl
theorem by8_lt (x y : Int) : by8 x < by8 y ↔ x % 256 < y % 256 := by
  rw [UInt8.lt_iff_toNat_lt, by8_nat, by8_nat]
  omega
theorem by8_eq (x y : Int) : by8 x = by8 y ↔ x % 256 = y % 256 := by
  rw [← UInt8.toNat_inj, by8_nat, by8_nat]
  omega
theorem bl_cons (a b : UInt8) (x y : List UInt8) : Op.bytesLess (a :: x) (b :: y) = true ↔ a < b ∨ (a = b ∧ Op.bytesLess x y = true) := by
  show (decide (a < b) || (a == b && Op.bytesLess x y)) = true ↔ _
  simp
theorem lkey_lt {a i b k : Int} (ha : 0 ≤ a ∧ a ≤ 65535) (hi : 0 ≤ i ∧ i ≤ 65535) (hb : 0 ≤ b ∧ b ≤ 65535) (hk : 0 ≤ k ∧ k ≤ 65535) :
    slt (lkey a i) (lkey b k) = true ↔ a < b ∨ (a = b ∧ i < k) := by
  unfold slt
  rw [toL_data, toL_data]
  show Op.bytesLess [by8 (a / 256), by8 a, by8 (i / 256), by8 i] [by8 (b / 256), by8 b, by8 (k / 256), by8 k] = true ↔ _
  rw [bl_cons, bl_cons, bl_cons, bl_cons, by8_lt, by8_lt, by8_lt, by8_lt, by8_eq, by8_eq, by8_eq, by8_eq]
  have h0 : Op.bytesLess [] [] = false := rfl
  rw [h0]
  simp only [Bool.false_eq_true, and_false, or_false]
  omega
theorem lkey_inj {a i b k : Int} (ha : 0 ≤ a ∧ a ≤ 65535) (hi : 0 ≤ i ∧ i ≤ 65535) (hb : 0 ≤ b ∧ b ≤ 65535) (hk : 0 ≤ k ∧ k ≤ 65535) (h : lkey a i = lkey b k) : a = b ∧ i = k := by
  have e : [by8 (a / 256), by8 a, by8 (i / 256), by8 i] = [by8 (b / 256), by8 b, by8 (k / 256), by8 k] := congrArg (fun x : ByteArray => x.data.toList) h
  simp only [List.cons.injEq, by8_eq, and_true] at e
  omega
theorem lkey_ok (n p : Int) : keyOk (lkey n p) := ⟨by rw [lkey_size]; decide, by rw [lkey_size]; decide⟩
/-- A key's live value. -/
def Live (R : List (ByteArray × Ce)) (k : ByteArray) (o : Option ByteArray) : Prop :=
  (∀ v, o = some v → ∃ c, (k, c) ∈ R ∧ c.st = 1 ∧ c.rst = v) ∧ (o = none → ∀ c, (k, c) ∈ R → c.st ≠ 1)
abbrev Fo := Int → Nat → Option ByteArray
def inN (num : Int) (i : Nat) : Prop := 0 ≤ num ∧ num < 1000 ∧ i < 65536
theorem lkey_inN {n m : Int} {p q : Nat} (h : inN n p) (g : inN m q) (e : lkey n p = lkey m q) : n = m ∧ p = q := by
  have := lkey_inj (a := n) (i := p) (b := m) (k := q) ⟨h.1, by have := h.2.1; omega⟩ ⟨by omega, by have := h.2.2; omega⟩ ⟨g.1, by have := g.2.1; omega⟩ ⟨by omega, by have := g.2.2; omega⟩ e
  omega
theorem lkey_less {n m : Int} {p q : Nat} (h : inN n p) (g : inN m q) : kL (lkey n p) (lkey m q) ↔ n < m ∨ (n = m ∧ p < q) := by
  unfold kL
  rw [lkey_lt (a := n) (i := p) (b := m) (k := q) ⟨h.1, by have := h.2.1; omega⟩ ⟨by omega, by have := h.2.2; omega⟩ ⟨g.1, by have := g.2.1; omega⟩ ⟨by omega, by have := g.2.2; omega⟩]
  omega
/-- The pieces that live, by their objects and their places. -/
structure Ab (R : List (ByteArray × Ce)) (F : Fo) : Prop where
  at_ : ∀ num i, inN num i → Live R (lkey num i) (F num i)
  only : ∀ x, x ∈ R → x.2.st = 1 → ∃ num i, inN num i ∧ x.1 = lkey num i
def setF (F : Fo) (num : Int) (i : Nat) (o : Option ByteArray) : Fo := fun n q => if n = num ∧ q = i then o else F n q
theorem Ab.nil : Ab [] fun _ _ => none := ⟨fun num i _ => ⟨fun v h => (by cases h), fun _ c h => (by cases h)⟩, fun x h => (by cases h)⟩
theorem Ab.did {R R' : List (ByteArray × Ce)} {F : Fo} {num : Int} {i : Nat} {c : Ce} {keep : List ByteArray} (h : Ab R F) (hd : Did R R' (lkey num i) c keep) (hi : inN num i) : Ab R' (setF F num i (if c.st = 1 then some c.rst else none)) where
  at_ := fun n q hq => by
    obtain ⟨d1, d2, d3⟩ := hd
    unfold setF
    by_cases e : n = num ∧ q = i
    · rw [if_pos e, e.1, e.2]
      constructor
      · intro v hv
        by_cases h1 : c.st = 1
        · rw [if_pos h1] at hv
          injection hv with hv
          exact ⟨c, d1, h1, hv⟩
        · rw [if_neg h1] at hv; cases hv
      · intro hn d hd
        by_cases h1 : c.st = 1
        · rw [if_pos h1] at hn; cases hn
        · rcases d2 _ hd with e2 | ⟨-, e2⟩
          · injection e2 with _ e2; rw [e2]; exact h1
          · exact absurd rfl e2
    · rw [if_neg e]
      have hne : lkey n q ≠ lkey num i := fun e2 => e (lkey_inN hq hi e2)
      obtain ⟨l1, l2⟩ := h.at_ n q hq
      constructor
      · intro v hv
        obtain ⟨d, g1, g2, g3⟩ := l1 v hv
        rcases d3 _ g1 hne with h4 | ⟨h4, -⟩
        · exact ⟨d, h4, g2, g3⟩
        · rw [show d.st = 2 from h4] at g2; exact absurd g2 (by decide)
      · intro hn d hd
        rcases d2 _ hd with e2 | ⟨e2, -⟩
        · injection e2 with e2 _; exact absurd e2 hne
        · exact l2 hn d e2
  only := fun x hx hl => by
    rcases hd.2.1 x hx with e | ⟨e, -⟩
    · exact ⟨num, i, hi, by rw [e]⟩
    · exact h.only x e hl
/-- The live rows from a piece's key on: the object's pieces, then something else. -/
theorem run_rows {R : List (ByteArray × Ce)} {F : Fo} (hs : R.Pairwise fun x y => kL x.1 y.1) (hk : ∀ x, x ∈ R → x.2.key = x.1) (hA : Ab R F) {num : Int} (h0 : 0 ≤ num ∧ num < 1000) {l : List ByteArray} (hl : ∀ i, i < 65536 → F num i = l[i]?) (hn : l.length < 65536) {j : Nat} (hj : j ≤ l.length) :
    ∃ B : List Kv, kvOf (fromR R (lkey num j)) = ((List.range (l.length - j)).map fun t => (lkey num ((j + t : Nat) : Int), l.getD (j + t) ⟨#[]⟩)) ++ B ∧ ∀ p, p ∈ B → p.1 ≠ lkey num l.length := by
  have srt : ∀ k, (kvOf (fromR R k)).Pairwise fun x y => kL x.1 y.1 := fun k => by
    unfold kvOf
    rw [List.pairwise_map]
    refine List.Pairwise.imp_of_mem (fun {a b} ha hb h => ?_) (List.Pairwise.filter _ (show (fromR R k).Pairwise (fun x y => kL x.1 y.1) from List.Pairwise.filter _ hs))
    have ha := (fromR_mem.1 (List.mem_filter.1 ha).1).1
    have hb := (fromR_mem.1 (List.mem_filter.1 hb).1).1
    show kL a.2.key b.2.key
    rw [hk a ha, hk b hb]
    exact h
  have mem : ∀ k (x : Kv), x ∈ kvOf (fromR R k) ↔ ∃ c, (x.1, c) ∈ R ∧ ¬ kL x.1 k ∧ c.st = 1 ∧ c.rst = x.2 := fun k x => by
    unfold kvOf
    rw [List.mem_map]
    constructor
    · rintro ⟨y, hy, rfl⟩
      obtain ⟨h1, h2⟩ := List.mem_filter.1 hy
      obtain ⟨h3, h4⟩ := fromR_mem.1 h1
      refine ⟨y.2, ?_, ?_, by simpa using h2, rfl⟩
      · show (y.2.key, y.2) ∈ R
        rw [hk y h3]; exact h3
      · show ¬ kL y.2.key k
        rw [hk y h3]; exact h4
    · rintro ⟨c, h1, h2, h3, h4⟩
      refine ⟨(x.1, c), List.mem_filter.2 ⟨fromR_mem.2 ⟨h1, h2⟩, by simpa using h3⟩, ?_⟩
      show (c.key, c.rst) = x
      rw [show c.key = x.1 from hk _ h1, h4]
  have jn : ∀ i : Nat, i < 65536 → inN num i := fun i hi => ⟨h0.1, h0.2, hi⟩
  refine ⟨kvOf (fromR R (lkey num l.length)), ?_, ?_⟩
  · refine pw_ext (r := fun x y : Kv => kL x.1 y.1) (fun a => kOrd.irr _) (fun a b c => kOrd.tr _ _ _) _ _ (srt _) ?_ ?_
    · rw [List.pairwise_append]
      refine ⟨?_, srt _, ?_⟩
      · rw [List.pairwise_map]
        refine (List.pairwise_lt_range (n := l.length - j)).imp_of_mem ?_
        intro q r hq hr hqr
        have hr := List.mem_range.1 hr
        exact (lkey_less (jn _ (by omega)) (jn _ (by omega))).2 (.inr ⟨rfl, by omega⟩)
      · intro x hx y hy
        obtain ⟨t, ht, rfl⟩ := List.mem_map.1 hx
        have ht := List.mem_range.1 ht
        obtain ⟨c, c1, c2, c3, -⟩ := (mem _ y).1 hy
        obtain ⟨n, q, hq, e⟩ := hA.only _ c1 c3
        have e : y.1 = lkey n q := e
        show kL (lkey num ((j + t : Nat) : Int)) y.1
        rw [e] at c2 ⊢
        rw [lkey_less hq (jn _ hn)] at c2
        rw [lkey_less (jn _ (by omega)) hq]
        omega
    · intro x
      rw [mem, List.mem_append, mem]
      constructor
      · rintro ⟨c, c1, c2, c3, c4⟩
        obtain ⟨n, q, hq, e⟩ := hA.only _ c1 c3
        have e : x.1 = lkey n q := e
        by_cases hc : n = num ∧ q < l.length
        · obtain ⟨rfl, hql⟩ := hc
          refine .inl (List.mem_map.2 ⟨q - j, ?_, ?_⟩)
          · rw [e, lkey_less hq (jn _ (by omega))] at c2
            exact List.mem_range.2 (by omega)
          · rw [e, lkey_less hq (jn _ (by omega))] at c2
            have hjq : j + (q - j) = q := by omega
            rw [hjq]
            obtain ⟨v, hv⟩ : ∃ v, l[q]? = some v := ⟨_, List.getElem?_eq_getElem hql⟩
            obtain ⟨d, g1, g2, g3⟩ := (hA.at_ n q hq).1 v (by rw [hl q hq.2.2]; exact hv)
            have : c = d := by
              refine rows_one kOrd hs (k := x.1) c1 ?_
              rw [e]; exact g1
            subst this
            refine Prod.ext e.symm ?_
            show l.getD q ⟨#[]⟩ = x.2
            rw [List.getD_eq_getElem?_getD, hv, ← c4, g3]
            rfl
        · refine .inr ⟨c, c1, ?_, c3, c4⟩
          rw [e, lkey_less hq (jn _ (by omega))] at c2
          rw [e, lkey_less hq (jn _ hn)]
          omega
      · rintro (h | ⟨c, c1, c2, c3, c4⟩)
        · obtain ⟨t, ht, rfl⟩ := List.mem_map.1 h
          have ht := List.mem_range.1 ht
          obtain ⟨v, hv⟩ : ∃ v, l[j + t]? = some v := ⟨_, List.getElem?_eq_getElem (by omega)⟩
          obtain ⟨d, g1, g2, g3⟩ := (hA.at_ num (j + t) (jn _ (by omega))).1 v (by rw [hl _ (by omega)]; exact hv)
          refine ⟨d, g1, ?_, g2, ?_⟩
          · show ¬ kL (lkey num ((j + t : Nat) : Int)) _
            rw [lkey_less (jn _ (by omega)) (jn _ (by omega))]
            omega
          · show d.rst = l.getD (j + t) ⟨#[]⟩
            rw [List.getD_eq_getElem?_getD, hv, g3]
            rfl
        · refine ⟨c, c1, fun h => c2 ?_, c3, c4⟩
          obtain ⟨n, q, hq, e⟩ := hA.only _ c1 c3
          have e : x.1 = lkey n q := e
          rw [e, lkey_less hq (jn _ (by omega))] at h
          rw [e, lkey_less hq (jn _ hn)]
          omega
  · intro p hp e
    obtain ⟨c, c1, c2, c3, -⟩ := (mem _ p).1 hp
    rw [e] at c1
    exact (hA.at_ num l.length (jn _ hn)).2 (by rw [hl _ hn]; simp) c c1 c3
/-- A step of an object's change: 13 a new piece, 15 another one, 16 none. -/
structure St where
  k : Int
  i : Nat
  val : ByteArray
def stF (F : Fo) (num : Int) (s : St) : Fo := setF F num s.i (if s.k = 16 then none else some s.val)
def StOk (F : Fo) (num : Int) (s : St) : Prop := ((s.k = 13 ∧ F num s.i = none) ∨ (s.k = 15 ∧ ∃ v, F num s.i = some v) ∨ (s.k = 16 ∧ s.val = ⟨#[]⟩ ∧ ∃ v, F num s.i = some v)) ∧ s.i < 65536 ∧ s.val.size ≤ 16
def Goes (num : Int) : Fo → List St → Fo → Prop
  | F, [], F' => F' = F
  | F, s :: l, F' => StOk F num s ∧ Goes num (stF F num s) l F'
theorem Goes.app {num : Int} : ∀ {F F1 F' : Fo} {a b : List St}, Goes num F a F1 → Goes num F1 b F' → Goes num F (a ++ b) F'
  | F, F1, F', [], b, h, g => by obtain rfl := (show F1 = F from h); exact g
  | F, F1, F', s :: l, b, h, g => by
    obtain ⟨h1, h2⟩ := (show StOk F num s ∧ Goes num (stF F num s) l F1 from h)
    exact ⟨h1, Goes.app h2 g⟩
def stepAt (frm tos : List ByteArray) (i : Nat) : List St :=
  if tos.length ≤ i then [⟨16, i, ⟨#[]⟩⟩] else if frm.length ≤ i then [⟨13, i, tos.getD i ⟨#[]⟩⟩] else if frm.getD i ⟨#[]⟩ = tos.getD i ⟨#[]⟩ then [] else [⟨15, i, tos.getD i ⟨#[]⟩⟩]
/-- What makes an object's pieces others. -/
def stepL (frm tos : List ByteArray) (n : Nat) : List St := (List.range n).flatMap (stepAt frm tos)
theorem stepL_succ (frm tos : List ByteArray) (n : Nat) : stepL frm tos (n + 1) = stepL frm tos n ++ stepAt frm tos n := by
  unfold stepL
  rw [List.range_succ, List.flatMap_append]
  simp
theorem stepAt_len (frm tos : List ByteArray) (i : Nat) : (stepAt frm tos i).length ≤ 1 := by
  unfold stepAt
  repeat' split
  all_goals simp
theorem stepL_len (frm tos : List ByteArray) : ∀ n, (stepL frm tos n).length ≤ n
  | 0 => Nat.le_refl 0
  | n + 1 => by
    rw [stepL_succ, List.length_append]
    have := stepL_len frm tos n
    have := stepAt_len frm tos n
    omega
def objF (F : Fo) (num : Int) (l : List ByteArray) : Fo := fun n q => if n = num then l[q]? else F n q
theorem objF_self {F : Fo} {num : Int} {l : List ByteArray} (h : ∀ i, F num i = l[i]?) : objF F num l = F := by
  funext n q
  unfold objF
  by_cases e : n = num
  · rw [if_pos e, e, h]
  · rw [if_neg e]
theorem steps_go (F : Fo) (num : Int) (frm tos : List ByteArray) (hf : frm.length ≤ 65536) (ht : tos.length ≤ 65536) (h16 : ∀ v, v ∈ tos → v.size ≤ 16) : Goes num (objF F num frm) (stepL frm tos (max frm.length tos.length)) (objF F num tos) := by
  have main : ∀ q, q ≤ max frm.length tos.length → Goes num (objF F num frm) (stepL frm tos q) (fun n r => if n = num then (if r < q then tos[r]? else frm[r]?) else F n r) := by
    intro q
    induction q with
    | zero => intro _; show _ = _; funext n r; simp [objF]
    | succ q ih =>
      intro hq
      rw [stepL_succ]
      refine Goes.app (ih (by omega)) ?_
      have gd : ∀ {i : Nat}, i < tos.length → tos[i]? = some (tos.getD i ⟨#[]⟩) := fun {i} hi => by rw [List.getD_eq_getElem?_getD, List.getElem?_eq_getElem hi]; rfl
      have gf : ∀ {i : Nat}, i < frm.length → frm[i]? = some (frm.getD i ⟨#[]⟩) := fun {i} hi => by rw [List.getD_eq_getElem?_getD, List.getElem?_eq_getElem hi]; rfl
      have m16 : ∀ {i : Nat}, i < tos.length → (tos.getD i ⟨#[]⟩).size ≤ 16 := fun {i} hi => h16 _ (by rw [List.getD_eq_getElem?_getD, List.getElem?_eq_getElem hi]; exact List.getElem_mem hi)
      have same : ∀ (o : Option ByteArray), o = tos[q]? → (fun n r => if n = num then (if r < q + 1 then tos[r]? else frm[r]?) else F n r) = setF (fun n r => if n = num then (if r < q then tos[r]? else frm[r]?) else F n r) num q o := by
        intro o ho
        funext n r
        unfold setF
        by_cases e : n = num
        · by_cases e2 : r = q
          · subst e2
            rw [if_pos e, if_pos (Nat.lt_succ_self r), if_pos (show n = num ∧ r = r from ⟨e, rfl⟩), ho]
          · rw [if_pos e, if_neg (show ¬ (n = num ∧ r = q) from fun h => e2 h.2)]
            dsimp only
            rw [if_pos e]
            by_cases h3 : r < q
            · rw [if_pos h3, if_pos (by omega)]
            · rw [if_neg h3, if_neg (by omega)]
        · rw [if_neg e, if_neg (show ¬ (n = num ∧ r = q) from fun h => e h.1)]
          dsimp only
          rw [if_neg e]
      unfold stepAt
      by_cases c1 : tos.length ≤ q
      · rw [if_pos c1]
        have hfq : q < frm.length := by omega
        refine ⟨⟨.inr (.inr ⟨rfl, rfl, ?_⟩), by show q < 65536; omega, by show (0 : Nat) ≤ 16; omega⟩, ?_⟩
        · refine ⟨frm.getD q ⟨#[]⟩, ?_⟩
          dsimp only
          rw [if_pos rfl, if_neg (by omega)]
          exact gf hfq
        · show _ = setF _ _ _ _
          exact same _ (by rw [if_pos rfl, List.getElem?_eq_none c1])
      rw [if_neg c1]
      by_cases c2 : frm.length ≤ q
      · rw [if_pos c2]
        refine ⟨⟨.inl ⟨rfl, ?_⟩, by show q < 65536; omega, m16 (by omega)⟩, ?_⟩
        · dsimp only
          rw [if_pos rfl, if_neg (by omega), List.getElem?_eq_none c2]
        · show _ = setF _ _ _ _
          exact same _ (by rw [if_neg (show ¬ ((13 : Int) = 16) by decide)]; exact (gd (by omega)).symm)
      rw [if_neg c2]
      by_cases c3 : frm.getD q ⟨#[]⟩ = tos.getD q ⟨#[]⟩
      · rw [if_pos c3]
        show _ = _
        funext n r
        by_cases e : n = num
        · rw [if_pos e, if_pos e]
          by_cases e2 : r = q
          · subst e2
            rw [if_pos (by omega), if_neg (by omega), gd (by omega), gf (by omega), c3]
          · by_cases h3 : r < q
            · rw [if_pos h3, if_pos (by omega)]
            · rw [if_neg h3, if_neg (by omega)]
        · rw [if_neg e, if_neg e]
      · rw [if_neg c3]
        refine ⟨⟨.inr (.inl ⟨rfl, frm.getD q ⟨#[]⟩, ?_⟩), by show q < 65536; omega, m16 (by omega)⟩, ?_⟩
        · dsimp only
          rw [if_pos rfl, if_neg (by omega)]
          exact gf (by omega)
        · show _ = setF _ _ _ _
          exact same _ (by rw [if_neg (show ¬ ((15 : Int) = 16) by decide)]; exact (gd (by omega)).symm)
  have := main _ (Nat.le_refl _)
  have e : (fun n r => if n = num then (if r < max frm.length tos.length then tos[r]? else frm[r]?) else F n r) = objF F num tos := by
    funext n r
    unfold objF
    by_cases e : n = num
    · rw [if_pos e, if_pos e]
      by_cases h : r < max frm.length tos.length
      · rw [if_pos h]
      · rw [if_neg h, List.getElem?_eq_none (by omega), List.getElem?_eq_none (by omega)]
    · rw [if_neg e, if_neg e]
  rw [e] at this
  exact this
/-- How many of the steps make a piece. -/
def putsN (l : List St) : Nat := (l.filter fun s => decide (s.k = 13)).length
theorem puts_step (frm tos : List ByteArray) : ∀ n, putsN (stepL frm tos n) ≤ min n tos.length - frm.length
  | 0 => Nat.zero_le _
  | n + 1 => by
    have ih := puts_step frm tos n
    have e : putsN (stepL frm tos (n + 1)) = putsN (stepL frm tos n) + putsN (stepAt frm tos n) := by
      unfold putsN; rw [stepL_succ, List.filter_append, List.length_append]
    rw [e]
    unfold stepAt
    by_cases c1 : tos.length ≤ n
    · rw [if_pos c1, show putsN [⟨16, n, ⟨#[]⟩⟩] = 0 from rfl]
      omega
    rw [if_neg c1]
    by_cases c2 : frm.length ≤ n
    · rw [if_pos c2, show putsN [⟨13, n, tos.getD n ⟨#[]⟩⟩] = 1 from rfl]
      omega
    rw [if_neg c2]
    by_cases c3 : frm.getD n ⟨#[]⟩ = tos.getD n ⟨#[]⟩
    · rw [if_pos c3, show putsN [] = 0 from rfl]
      omega
    · rw [if_neg c3, show putsN [⟨15, n, tos.getD n ⟨#[]⟩⟩] = 0 from rfl]
      omega
theorem stepL_i (frm tos : List ByteArray) : ∀ n s, s ∈ stepL frm tos n → s.i < n
  | 0, s, h => by cases h
  | n + 1, s, h => by
    rw [stepL_succ] at h
    rcases List.mem_append.1 h with h | h
    · have := stepL_i frm tos n s h; omega
    · unfold stepAt at h
      have : s.i = n := by
        by_cases c1 : tos.length ≤ n
        · rw [if_pos c1] at h; rw [List.mem_singleton.1 h]
        rw [if_neg c1] at h
        by_cases c2 : frm.length ≤ n
        · rw [if_pos c2] at h; rw [List.mem_singleton.1 h]
        rw [if_neg c2] at h
        by_cases c3 : frm.getD n ⟨#[]⟩ = tos.getD n ⟨#[]⟩
        · rw [if_pos c3] at h; cases h
        · rw [if_neg c3] at h; rw [List.mem_singleton.1 h]
      omega
theorem stepL_sorted (frm tos : List ByteArray) : ∀ n, (stepL frm tos n).Pairwise fun a b => a.i < b.i
  | 0 => List.Pairwise.nil
  | n + 1 => by
    rw [stepL_succ, List.pairwise_append]
    refine ⟨stepL_sorted frm tos n, ?_, fun x hx y hy => ?_⟩
    · have := stepAt_len frm tos n
      match h : stepAt frm tos n with
      | [] => exact List.Pairwise.nil
      | [a] => exact List.pairwise_singleton _ _
      | a :: b :: l => rw [h] at this; simp at this
    · have h1 := stepL_i frm tos n x hx
      have h2 := stepL_i frm tos (n + 1) y (by rw [stepL_succ]; exact List.mem_append_right _ hy)
      have h3 : y.i = n := by
        unfold stepAt at hy
        by_cases c1 : tos.length ≤ n
        · rw [if_pos c1] at hy; rw [List.mem_singleton.1 hy]
        rw [if_neg c1] at hy
        by_cases c2 : frm.length ≤ n
        · rw [if_pos c2] at hy; rw [List.mem_singleton.1 hy]
        rw [if_neg c2] at hy
        by_cases c3 : frm.getD n ⟨#[]⟩ = tos.getD n ⟨#[]⟩
        · rw [if_pos c3] at hy; cases hy
        · rw [if_neg c3] at hy; rw [List.mem_singleton.1 hy]
      omega
/-- Bytes from a place on. -/
def dropB (d : ByteArray) (k : Nat) : ByteArray := d.extract k d.size
/-- Bytes cut into pieces of sixteen; of none there is one empty piece. -/
def pieceN (d : ByteArray) : Nat := max 1 ((d.size + 15) / 16)
def pieceB (d : ByteArray) (i : Nat) : ByteArray := d.extract (i * 16) (i * 16 + 16)
def cutB (d : ByteArray) : List ByteArray := (List.range (pieceN d)).map (pieceB d)
theorem cutB_len (d : ByteArray) : (cutB d).length = pieceN d := by unfold cutB; simp
theorem pieceB_size (d : ByteArray) (i : Nat) : (pieceB d i).size = min (i * 16 + 16) d.size - i * 16 := by unfold pieceB; exact ByteArray.size_extract
theorem cutB_16 (d : ByteArray) : ∀ v, v ∈ cutB d → v.size ≤ 16 := fun v hv => by
  obtain ⟨i, -, rfl⟩ := List.mem_map.1 hv
  rw [pieceB_size]; omega
theorem ba_list {a b : ByteArray} (h : a.data.toList = b.data.toList) : a = b := by
  cases a with | mk x => cases b with | mk y => exact congrArg ByteArray.mk (Array.ext' h)
theorem ext_list (d : ByteArray) (a b : Nat) : (d.extract a b).data.toList = (d.data.toList.take b).drop a := by
  rw [ByteArray.data_extract, Array.toList_extract]
  simp [List.extract, List.drop_take]
theorem joinB_cut (d : ByteArray) : ((cutB d).map fun v => v.data.toList).flatten = d.data.toList := by
  have main : ∀ n, (((List.range n).map (pieceB d)).map fun v => v.data.toList).flatten = d.data.toList.take (n * 16) := by
    intro n
    induction n with
    | zero => simp
    | succ n ih =>
      rw [List.range_succ, List.map_append, List.map_append, List.flatten_append, ih]
      show _ ++ [(pieceB d n).data.toList].flatten = _
      unfold pieceB
      rw [ext_list, List.flatten_singleton, show (n + 1) * 16 = n * 16 + 16 by omega]
      have := List.take_append_drop (n * 16) (d.data.toList.take (n * 16 + 16))
      rw [List.take_take, Nat.min_eq_left (by omega)] at this
      exact this
  unfold cutB
  rw [main, List.take_of_length_le]
  unfold pieceN
  show d.data.toList.length ≤ _
  rw [Array.length_toList]
  show d.size ≤ _
  omega
end Go.Proofs.YtaiiimlmkigajaaGreat
namespace Go.Proofs.YtaiiimlmkigajaaGreat
open Go.RowKit Go.Maps

theorem infoB1 : (Tryz.prog.info? 5).map (fun i => (i.zero, i.size, i.bytes)) = some (some (.int .u8 0), 1, 1) := by kernel_rfl
section
variable {ops : Array Oper} {rest : List Oper} {o : Oper} {a : Act} {w : World} {Q : Exit → Act → World → Prop}
theorem slice4_b (hg : o.guard = none) (x0 x1 x2 x3 : Operand) (ho : o.op = .buildSlice 99 4 #[(0, x0), (1, x1), (2, x2), (3, x3)]) (b0 b1 b2 b3 : Int)
    (h0 : a.eval x0 = .int .u8 b0) (h1 : a.eval x1 = .int .u8 b1) (h2 : a.eval x2 = .int .u8 b2) (h3 : a.eval x3 = .int .u8 b3)
    (h : wpList Tryz.prog ops Q rest (a.put o.dst (.slice (some ⟨w.heap.size, 0, none⟩) 4 4)) (w.alloc (.cells #[.int .u8 b0, .int .u8 b1, .int .u8 b2, .int .u8 b3] 5))) : wpList Tryz.prog ops Q (o :: rest) a w := by
  obtain ⟨i0, hi0, hz0, hz1, hz2⟩ := info_parts infoB1
  refine wpList_buildSlice hg 99 5 4 #[(0, x0), (1, x1), (2, x2), (3, x3)] ho #[.int .u8 b0, .int .u8 b1, .int .u8 b2, .int .u8 b3] i0 _ Tryz.underlying99 hi0 hz0 (by rw [hz1]; decide) (by rw [hz1]; decide) ?_ h
  rw [hz1]
  simp only [List.map_toArray, List.map_cons, List.map_nil, h0, h1, h2, h3]
  show Instr.fill _ _ _ = some #[Value.int IntKind.u8 b0, Value.int IntKind.u8 b1, Value.int IntKind.u8 b2, Value.int IntKind.u8 b3]
  kernel_rfl
theorem conv_l (hg : o.guard = none) (x : Operand) (ho : o.op = .convert 99 9 x) (g : Nat) (n p : Int) (hx : a.eval x = .slice (some ⟨g, 0, none⟩) 4 4)
    (hb : Bk w g 5 #[.int .u8 ((n / 256) % 256), .int .u8 (n % 256), .int .u8 ((p / 256) % 256), .int .u8 (p % 256)])
    (h : wpList Tryz.prog ops Q rest (a.put o.dst (.string (lkey n p))) w) : wpList Tryz.prog ops Q (o :: rest) a w := by
  refine wpList_plain hg fun K' hK' => ?_
  have e : ∀ x : Int, ((by8 x).toNat : Int) = x % 256 := fun x => by rw [by8_nat]; omega
  have hr := run_convert_bytes_back (P := Tryz.prog) w 99 9 5 ⟨g, 0, none⟩ 4 [by8 (n / 256), by8 n, by8 (p / 256), by8 p] Tryz.underlying99 Tryz.underlying5 Tryz.underlying9 (fun j hj => by
    rw [Addr.add_lit, Nat.zero_add, hb.cell]
    have hj4 : j < 4 := hj
    rcases (show j = 0 ∨ j = 1 ∨ j = 2 ∨ j = 3 by omega) with rfl | rfl | rfl | rfl
    · show some (Value.int .u8 ((n / 256) % 256)) = some (Value.int .u8 ((by8 (n / 256)).toNat : Int)); rw [e]
    · show some (Value.int .u8 (n % 256)) = some (Value.int .u8 ((by8 n).toNat : Int)); rw [e]
    · show some (Value.int .u8 ((p / 256) % 256)) = some (Value.int .u8 ((by8 (p / 256)).toNat : Int)); rw [e]
    · show some (Value.int .u8 (p % 256)) = some (Value.int .u8 ((by8 p).toNat : Int)); rw [e])
  unfold Oper.wp execOp
  have hl : [by8 (n / 256), by8 n, by8 (p / 256), by8 p].length = 4 := rfl
  rw [hl] at hr
  simp only [ho, hx, Sem.run_bind, Sem.run_pure, Result.andThen_ok, hr]
  exact hK' _ _ h
end
set_option maxRecDepth 100000 in
theorem lkey_any (n p : Int) (w : World) (hn : -9223372036854775808 ≤ n ∧ n ≤ 9223372036854775807) (hp : -9223372036854775808 ≤ p ∧ p ≤ 9223372036854775807) :
    Calls Tryz.prog 58 #[.int .i64 n, .int .i64 p] w fun e w' => e = .returned (.string (lkey n p)) ∧ Below w.heap.size w w' := by
  have B0 := Lib.hid ((Below.refl w.heap.size w).alloc (Nat.le_refl _) (.cells #[.int .u8 ((n / 256) % 256), .int .u8 (n % 256), .int .u8 ((p / 256) % 256), .int .u8 (p % 256)] 5))
  go_enter Tryz.func58, Tryz.ntmps58
  go_wp2_with (first | (refine slice4_b rfl _ _ _ _ rfl ((n / 256) % 256) (n % 256) ((p / 256) % 256) (p % 256) rfl rfl rfl rfl ?_) | (refine conv_l rfl _ rfl w.heap.size n p rfl (Bk.new w _ _) ?_))
  go_ret
  exact ⟨rfl, B0.out⟩
end Go.Proofs.YtaiiimlmkigajaaGreat
namespace Go.Proofs.YtaiiimlmkigajaaGreat
open Go.RowKit Go.Maps Go.ChangeShapes Go.WideShapes Go.ChangeAt Go.Deep

def txL (l : List ByteArray) : List Value := l.map .string
theorem txL_app (l m : List ByteArray) : txL (l ++ m) = txL l ++ txL m := by unfold txL; rw [List.map_append]
theorem txL_one (l : List ByteArray) : ∀ u ∈ txL l, u.oneCell' = true := fun u hu => by
  unfold txL at hu
  obtain ⟨x, -, rfl⟩ := List.mem_map.1 hu
  rfl
/-- A row of texts of one's own. -/
def TxOwn (w : World) (base : Nat) (v : Value) (l : List ByteArray) : Prop := w.ownsRow base 9 1 v l.length (txL l)
def szV : Value → Nat
  | .string s => s.size
  | _ => 0
theorem dropB_size (d : ByteArray) (k : Nat) : (dropB d k).size = d.size - k := by unfold dropB; rw [ByteArray.size_extract]; omega
theorem dropB_drop (d : ByteArray) (k j : Nat) : (dropB d k).extract j (dropB d k).size = dropB d (k + j) := by
  refine ba_list ?_
  rw [dropB_size]
  unfold dropB
  rw [ext_list, ext_list, ext_list]
  have hl : d.data.toList.length = d.size := by rw [Array.length_toList]; rfl
  rw [List.take_of_length_le (l := d.data.toList) (by omega), List.take_of_length_le (by rw [List.length_drop]; omega), List.drop_drop]
theorem dropB_take (d : ByteArray) (k : Nat) : (dropB d (k * 16)).extract 0 16 = pieceB d k := by
  refine ba_list ?_
  unfold dropB pieceB
  rw [ext_list, ext_list, ext_list]
  have hl : d.data.toList.length = d.size := by rw [Array.length_toList]; rfl
  rw [List.take_of_length_le (l := d.data.toList) (by omega), List.drop_zero, List.drop_take]
  congr 1
  omega
theorem dropB_zero (d : ByteArray) : dropB d 0 = d := by
  refine ba_list ?_
  unfold dropB
  rw [ext_list]
  have hl : d.data.toList.length = d.size := by rw [Array.length_toList]; rfl
  rw [List.take_of_length_le (by omega), List.drop_zero]
theorem pieces_snoc (d : ByteArray) (k : Nat) : txL ((List.range k).map (pieceB d)) ++ [.string (pieceB d k)] = txL ((List.range (k + 1)).map (pieceB d)) := by
  rw [List.range_succ, List.map_append, txL_app]
  rfl
/-- The last piece. -/
theorem piece_last (d : ByteArray) (k : Nat) (h : d.size ≤ k * 16 + 16) : dropB d (k * 16) = pieceB d k := by
  rw [← dropB_take]
  refine ba_list ?_
  rw [ext_list, List.drop_zero, List.take_of_length_le]
  have hl : (dropB d (k * 16)).data.toList.length = (dropB d (k * 16)).size := by rw [Array.length_toList]; rfl
  rw [hl, dropB_size]
  omega
set_option maxRecDepth 100000 in
set_option maxHeartbeats 8000000 in
theorem slice_any (d : ByteArray) (hd : d.size ≤ 1000000) (w : World) : Calls Tryz.prog 38 #[.string d] w fun e w' => ∃ v, e = .returned v ∧ TxOwn w' w.heap.size v (cutB d) ∧ Below w.heap.size w w' := by
  have HD := Lib.hid hd
  clear hd
  have IV := Lib.hid (show Value.string d = .string (dropB d (0 * 16)) by rw [Nat.zero_mul, dropB_zero])
  go_enter Tryz.func38, Tryz.ntmps38
  go_wp2_with fail
  go_loopw [0, 3] (fun dv ls wr => ∃ k, dv = .string (dropB d (k * 16)) ∧ (k = 0 ∨ k * 16 < d.size) ∧ wr.ownsRow w.heap.size 9 1 ls k (txL ((List.range k).map (pieceB d))) ∧ Below w.heap.size w wr) (fun dv _ _ => szV dv)
  case atStart => exact ⟨0, IV.out, .inl rfl, World.ownsRow_nil _ _ _ _, Below.refl _ _⟩
  case round =>
    obtain ⟨k, rfl, hk, ho, hb⟩ := hrel
    obtain ⟨s, hs⟩ : ∃ s, s = dropB d (k * 16) := ⟨_, rfl⟩
    rw [← hs]
    have SS := Lib.hid hs
    have hz : s.size = d.size - k * 16 := by rw [hs, dropB_size]
    have SZ := Lib.hid hz
    have HK := Lib.hid hk; have O1 := Lib.hid ho; have B1 := Lib.hid hb
    have hs9 : s.size ≤ 9223372036854775807 := by have := HD.out; omega
    have K1 := Lib.hid (show k ≤ 1000000 from by have := HD.out; rcases hk with h | h <;> omega)
    have k1i : k ≤ 9223372036854775807 := by have := K1.out; omega
    obtain ⟨la, lc, rfl⟩ := ow_slice ho
    clear hs hz hk ho hb
    obtain ⟨i0, hi, hz0, hz1, hz2⟩ := info_parts infoTx
    have GO : ∀ (o : Oper) (ops : Array Oper) (rest : List Oper) (a : Act) (Q : Exit → Act → World → Prop) (x y : Operand) (t : ByteArray), o.guard = none → o.op = .call { callee := .builtin .append, args := #[x, y], argTypes := #[29, 29] } → t = pieceB d k →
        a.eval x = .slice la k lc → a.eval y = .slice (some ⟨wr.heap.size, 0, none⟩) 1 1 → (∀ g cap w', w'.ownsRow w.heap.size 9 1 (.slice (some ⟨g, 0, none⟩) (k + 1) cap) (k + 1) (txL ((List.range (k + 1)).map (pieceB d))) → Below w.heap.size w w' → wpList Tryz.prog ops Q rest (a.put o.dst (.slice (some ⟨g, 0, none⟩) (k + 1) cap)) w') →
        wpList Tryz.prog ops Q (o :: rest) a (wr.alloc (.cells #[.string t] 9)) := by
      intro o ops rest a Q x y t hg ho ht hx hy h
      refine wpList_append_lies (wr.alloc (.cells #[.string t] 9)) hg x y 29 ho w.heap.size 9 i0 _ 1 16 Tryz.underlying29 hi hz0 hz1 hz2 rfl (by decide) (.slice la k lc) k (txL ((List.range k).map (pieceB d))) hx (ow_kept O1.out ((Below.refl wr.heap.size wr).alloc (Nat.le_refl _) _)) ⟨wr.heap.size, 0, none⟩ 1 1 [.string t] hy rfl (fun j u hu => ?_) (fun u hu => by rw [List.mem_singleton.1 hu]; rfl) (by decide) (by have := K1.out; unfold maxLen; omega) (by have := K1.out; omega) (by rw [World.size_alloc]; exact Nat.le_succ_of_le B1.out.size) _ rfl ?_
      · match j, hu with
        | 0, hu => obtain rfl : Value.string t = u := by simpa using hu
                   exact (Bk.new wr 9 #[.string t]).cell 0
      · intro g cap w' hown hgrow _ _
        rw [ht, pieces_snoc] at hown
        exact h g cap w' hown (bl_grow (B1.out.alloc B1.out.size (.cells #[.string t] 9)) hgrow (fun q hq => (ow_blk O1.out hq).1) (by rw [World.size_alloc]; exact Nat.le_succ_of_le B1.out.size))
    have GOH := Lib.hid GO
    clear GO hi hz0 hz1 hz2 i0
    by_cases c16 : 16 < s.size
    · have c16i : (16 : Int) < (s.size : Int) := by omega
      have c16n : ¬ ((s.size : Int) < 16) := by omega
      have e1 : s.extract 0 16 = pieceB d k := by rw [SS.out]; exact dropB_take d k
      have e2 : s.extract 16 s.size = dropB d ((k + 1) * 16) := by rw [SS.out, dropB_drop]; congr 1; omega
      as_aux_lemma =>
          go_wp2_with (first | (refine slice1_tx rfl _ rfl (pieceB d k) rfl ?_) | (refine GOH.out _ _ _ _ _ _ _ _ rfl rfl rfl rfl rfl ?_; intro g cap w' hown hb; (have O2 := Lib.hid hown); (have B2 := Lib.hid hb); clear hown hb))
          go_roundw
          case rel => exact ⟨k + 1, rfl, .inr (by have := SZ.out; omega), O2.out, B2.out⟩
          case measure => have := SZ.out; simp only [szV, dropB_size]; omega
    · have hlast : s = pieceB d k := by rw [SS.out]; exact piece_last d k (by have := SZ.out; omega)
      have c16i : ¬ (16 : Int) < (s.size : Int) := by omega
      have LST := Lib.hid hlast
      clear hlast
      have DL := Lib.hid (show (cutB d).length = k + 1 ∧ cutB d = (List.range (k + 1)).map (pieceB d) from by
        have e : pieceN d = k + 1 := by
          have h1 := SZ.out; have h2 := HK.out
          unfold pieceN; omega
        unfold cutB
        rw [e]
        simp)
      have eE : (⟨#[]⟩ : ByteArray).toList = [] := by rw [toL_data]
      have k0 : s.size = 0 → ((k : Int) == 0) = true := fun c0 => by rcases HK.out with h | h <;> first | (simp [h]; done) | (exfalso; have := SZ.out; omega)
      by_cases c0 : s.size = 0
      · have es : s.toList.isEmpty = true := by rw [(ba_empty_iff s).2 c0, eE]; rfl
        have k0i := k0 c0
        clear c0 k0 eE
        as_aux_lemma =>
          go_wp2_with (first | (refine slice1_tx rfl _ rfl s rfl ?_) | (refine GOH.out _ _ _ _ _ _ _ _ rfl rfl LST.out rfl rfl ?_; intro g cap w' hown hb; (have O2 := Lib.hid hown); (have B2 := Lib.hid hb); clear hown hb))
          go_ret
          exact ⟨_, rfl, by unfold TxOwn; rw [DL.out.1, DL.out.2]; exact O2.out, B2.out⟩
      · have es : s.toList.isEmpty = false := by
          cases h : s.toList.isEmpty with
          | false => rfl
          | true =>
            rw [toL_data, List.isEmpty_iff] at h
            exact absurd ((ba_empty_iff s).1 (ba_list (by rw [h]))) c0
        clear c0 k0 eE
        as_aux_lemma =>
          go_wp2_with (first | (refine slice1_tx rfl _ rfl s rfl ?_) | (refine GOH.out _ _ _ _ _ _ _ _ rfl rfl LST.out rfl rfl ?_; intro g cap w' hown hb; (have O2 := Lib.hid hown); (have B2 := Lib.hid hb); clear hown hb))
          go_ret
          exact ⟨_, rfl, by unfold TxOwn; rw [DL.out.1, DL.out.2]; exact O2.out, B2.out⟩
end Go.Proofs.YtaiiimlmkigajaaGreat
namespace Go.Proofs.YtaiiimlmkigajaaGreat
open Go.RowKit Go.Maps Go.ChangeShapes Go.WideShapes Go.ChangeAt Go.Deep

def stC (num : Int) (s : St) : Array Value := #[.int .i64 s.k, .string (lkey num s.i), .string s.val]
def stL (num : Int) (l : List St) : List Value := l.flatMap fun s => (stC num s).toList
theorem stL_app (num : Int) (l m : List St) : stL num (l ++ m) = stL num l ++ stL num m := by unfold stL; rw [List.flatMap_append]
theorem stL_len (num : Int) : ∀ l : List St, (stL num l).length = l.length * 3
  | [] => rfl
  | x :: l => by
    have := stL_len num l
    unfold stL at *
    rw [List.flatMap_cons, List.length_append, this, List.length_cons, show (stC num x).toList.length = 3 from rfl]
    omega
/-- A row of steps of one's own. -/
def StOwn (w : World) (base : Nat) (v : Value) (num : Int) (l : List St) : Prop := w.ownsRow base 52 3 v l.length (stL num l)
theorem infoSt : (Tryz.prog.info? 52).map (fun i => (i.zero, i.size, i.bytes)) = some (some (.agg #[.int .i64 0, .string ⟨#[]⟩, .string ⟨#[]⟩]), 3, 40) := by kernel_rfl
section
variable {ops : Array Oper} {rest : List Oper} {o : Oper} {a : Act} {w : World} {Q : Exit → Act → World → Prop}
theorem slice1_lst (hg : o.guard = none) (x : Operand) (ho : o.op = .buildSlice 42 1 #[(0, x)]) (num : Int) (s : St)
    (hx : a.eval x = .agg (stC num s)) (h : wpList Tryz.prog ops Q rest (a.put o.dst (.slice (some ⟨w.heap.size, 0, none⟩) 1 1)) (w.alloc (.cells (stC num s) 52))) : wpList Tryz.prog ops Q (o :: rest) a w := by
  obtain ⟨i0, hi0, hz0, hz1, hz2⟩ := info_parts infoSt
  refine wpList_buildSlice hg 42 52 1 #[(0, x)] ho (stC num s) i0 _ Tryz.underlying42 hi0 hz0 (by rw [hz1]; decide) (by rw [hz1]; decide) ?_ h
  rw [hz1]
  simp only [List.map_toArray, List.map_cons, List.map_nil, hx]
  kernel_rfl
/-- A step more. -/
theorem app_st (hg : o.guard = none) (x y : Operand) (ho : o.op = .call { callee := .builtin .append, args := #[x, y], argTypes := #[42, 42] }) {w0 : World} {num : Int} {s : St} {l : List St} {n : Nat} {v : Value}
    (hn : n = l.length) (hx : a.eval x = v) (hy : a.eval y = .slice (some ⟨w.heap.size, 0, none⟩) 1 1) (hown : w.ownsRow w0.heap.size 52 3 v n (stL num l)) (hb : Below w0.heap.size w0 w) (hl : n ≤ 1000000)
    (h : ∀ g cap w', w'.ownsRow w0.heap.size 52 3 (.slice (some ⟨g, 0, none⟩) (n + 1) cap) (n + 1) (stL num (l ++ [s])) → Below w0.heap.size w0 w' → wpList Tryz.prog ops Q rest (a.put o.dst (.slice (some ⟨g, 0, none⟩) (n + 1) cap)) w') :
    wpList Tryz.prog ops Q (o :: rest) a (w.alloc (.cells (stC num s) 52)) := by
  obtain ⟨i0, hi, hz0, hz1, hz2⟩ := info_parts infoSt
  refine wpList_append_lies (w.alloc (.cells (stC num s) 52)) hg x y 42 ho w0.heap.size 52 i0 _ 3 40 Tryz.underlying42 hi hz0 hz1 hz2 rfl (by decide) v n (stL num l) hx (ow_kept hown ((Below.refl w.heap.size w).alloc (Nat.le_refl _) _)) ⟨w.heap.size, 0, none⟩ 1 1 (stC num s).toList hy rfl (fun j u hu => ?_) (fun u hu => ?_) (by decide) (by unfold maxLen; omega) (by omega) (by rw [World.size_alloc]; exact Nat.le_succ_of_le hb.size) _ rfl ?_
  · rw [Addr.add_lit, Nat.zero_add, (Bk.new w 52 (stC num s)).cell]
    simpa using hu
  · rcases List.mem_cons.1 hu with rfl | hu
    · rfl
    rcases List.mem_cons.1 hu with rfl | hu
    · rfl
    rw [List.mem_singleton.1 hu]; rfl
  · intro g cap w' hown' hgrow _ _
    have e : stL num l ++ (stC num s).toList = stL num (l ++ [s]) := by rw [stL_app]; unfold stL; simp
    rw [e] at hown'
    exact h g cap w' hown' (bl_grow (hb.alloc hb.size (.cells (stC num s) 52)) hgrow (fun q hq => (ow_blk hown hq).1) (by rw [World.size_alloc]; exact Nat.le_succ_of_le hb.size))
end
theorem srow_cell {w : World} {v : Value} {l : List ByteArray} (h : SRow w v l) : ∃ a c, v = .slice a l.length c ∧ l.length ≤ maxLen ∧ ∀ i, i < l.length → ∃ b off, a = some (⟨b, off, none⟩ : Addr) ∧ w.cell? ⟨b, off + i, none⟩ = some (.string (l.getD i ⟨#[]⟩)) := by
  obtain ⟨h0, a, c, e, h⟩ := h
  refine ⟨a, c, e, h0, fun i hi => ?_⟩
  rcases h with h | ⟨b, off, e1, hlt, hc⟩
  · rw [h] at hi; cases hi
  · exact ⟨b, off, e1, hc i hi⟩
set_option maxRecDepth 100000 in
set_option maxHeartbeats 8000000 in
theorem steps_any (num : Int) (hn : -9223372036854775808 ≤ num ∧ num ≤ 9223372036854775807) (fv tv : Value) (frm tos : List ByteArray) (w : World) (hf : SRow w fv frm) (ht : SRow w tv tos) (hfl : frm.length ≤ 65536) (htl : tos.length ≤ 65536) :
    Calls Tryz.prog 37 #[.int .i64 num, fv, tv] w fun e w' => ∃ v, e = .returned v ∧ StOwn w' w.heap.size v num (stepL frm tos (max frm.length tos.length)) ∧ Below w.heap.size w w' := by
  have HN := Lib.hid hn
  have FR := Lib.hid hf; have TR := Lib.hid ht
  obtain ⟨fa, fc, rfl, -, -⟩ := srow_cell hf
  obtain ⟨ta, tc, rfl, -, -⟩ := srow_cell ht
  obtain ⟨fl, hfl2⟩ : ∃ fl, fl = frm.length := ⟨_, rfl⟩
  obtain ⟨tl, htl2⟩ : ∃ tl, tl = tos.length := ⟨_, rfl⟩
  have FL := Lib.hid (show fl = frm.length ∧ fl ≤ 65536 by omega)
  have TL := Lib.hid (show tl = tos.length ∧ tl ≤ 65536 by omega)
  rw [← hfl2] at FR ⊢; rw [← htl2] at TR ⊢
  obtain ⟨mx, hmx⟩ : ∃ mx, mx = max fl tl := ⟨_, rfl⟩
  have MX := Lib.hid hmx
  rw [← hmx]
  clear hn hf ht hfl htl hfl2 htl2 hmx
  go_enter Tryz.func37, Tryz.ntmps37
  go_upto_region 3 with fail
  rw [show max (fl : Int) (tl : Int) = (mx : Int) by rw [MX.out]; omega]
  go_loopw [7, 15] (fun ls iv wr => ∃ k : Nat, iv = .int .i64 k ∧ k ≤ mx ∧ wr.ownsRow w.heap.size 52 3 ls (stepL frm tos k).length (stL num (stepL frm tos k)) ∧ Below w.heap.size w wr) (fun _ iv _ => mx - (RowKit.intOf iv).toNat)
  case atStart => exact ⟨0, rfl, Nat.zero_le _, World.ownsRow_nil _ _ _ _, Below.refl _ _⟩
  case round =>
    obtain ⟨k, rfl, hk, ho, hb⟩ := hrel
    obtain ⟨n, hn⟩ : ∃ n, n = (stepL frm tos k).length := ⟨_, rfl⟩
    rw [← hn] at ho
    obtain ⟨la, lc, rfl⟩ := ow_slice ho
    have O1 := Lib.hid ho; have B1 := Lib.hid hb; have NL := Lib.hid hn
    have MXB := Lib.hid (show mx ≤ 65536 by rw [MX.out]; have := FL.out; have := TL.out; omega)
    have KN := Lib.hid (show n ≤ 65536 ∧ k ≤ mx from ⟨by rw [hn]; have := stepL_len frm tos k; have := MXB.out; omega, hk⟩)
    clear ho hb hn hk
    by_cases hlt : k < mx
    · have hlti : (k : Int) < (mx : Int) := by omega
      have kb : k < 9223372036854775807 := by have := MXB.out; omega
      have HLT := Lib.hid hlt
      have CK := Lib.hid (lkey_any num k wr HN.out (by have := MXB.out; omega))
      have REL := Lib.hid (show ∀ (v : Value) (wz : World) (m : Nat) (l : List St), stepL frm tos k ++ l = stepL frm tos (k + 1) → m = n + l.length → wz.ownsRow w.heap.size 52 3 v m (stL num (stepL frm tos k ++ l)) → Below w.heap.size w wz → ∃ q : Nat, Value.int .i64 ((k : Int) + 1) = .int .i64 q ∧ q ≤ mx ∧ wz.ownsRow w.heap.size 52 3 v (stepL frm tos q).length (stL num (stepL frm tos q)) ∧ Below w.heap.size w wz from fun v wz m l h1 h2 h3 h4 =>
        ⟨k + 1, by push_cast; rfl, by omega, by
          rw [h1] at h3
          rw [h2, NL.out, ← List.length_append, h1] at h3
          exact h3, h4⟩)
      clear hlt
      as_aux_lemma =>
        go_wp2_with fail
        refine CK.out.mono ?_
        rintro e w1 ⟨rfl, hb⟩
        have B2 := Lib.hid (below_then B1.out hb B1.out.size)
        have O2 := Lib.hid (ow_kept O1.out hb)
        have T2 := Lib.hid (TR.out.kept (B2.out)); have F2 := Lib.hid (FR.out.kept (B2.out))
        clear hb O1 B1 CK
        by_cases c1 : tl ≤ k
        · have c1i : (tl : Int) ≤ (k : Int) := by omega
          have EA := Lib.hid (show stepL frm tos k ++ [⟨16, k, ⟨#[]⟩⟩] = stepL frm tos (k + 1) by rw [stepL_succ]; unfold stepAt; rw [if_pos (by rw [← TL.out.1]; exact c1)])
          as_aux_lemma =>
            go_wp2_with (first | (refine slice1_lst rfl _ rfl num ⟨16, k, ⟨#[]⟩⟩ rfl ?_) | (refine app_st rfl _ _ rfl (w0 := w) (num := num) (s := ⟨16, k, ⟨#[]⟩⟩) (l := stepL frm tos k) (n := n) (v := .slice la n lc) NL.out rfl rfl O2.out B2.out (by have := KN.out; omega) ?_; intro g cap w2 hown hb; (have O3 := Lib.hid hown); (have B3 := Lib.hid hb); clear hown hb))
            go_roundw
            case rel => exact REL.out _ _ _ _ EA.out rfl O3.out B3.out
            case measure => have := HLT.out; simp [RowKit.intOf]; omega
        have c1i : ¬ (tl : Int) ≤ (k : Int) := by omega
        have ktl : (k : Int) < (tl : Int) := by omega
        obtain ⟨tv, htv⟩ : ∃ tv, tv = tos.getD k ⟨#[]⟩ := ⟨_, rfl⟩
        obtain ⟨ta', tc', te, -, tcel⟩ := srow_cell T2.out
        obtain ⟨tb, toff, rfl, tcell⟩ : ∃ tb toff, ta = some (⟨tb, toff, none⟩ : Addr) ∧ w1.cell? ⟨tb, toff + k, none⟩ = some (.string tv) := by
          obtain ⟨b, off, e1, e2⟩ := tcel k (by rw [← TL.out.1]; omega)
          rw [← TL.out.1] at te
          injection te with te
          exact ⟨b, off, by rw [te]; exact e1, by rw [htv]; exact e2⟩
        clear te tcel
        by_cases c2 : fl ≤ k
        · have c2i : (fl : Int) ≤ (k : Int) := by omega
          have EA := Lib.hid (show stepL frm tos k ++ [⟨13, k, tv⟩] = stepL frm tos (k + 1) by rw [stepL_succ]; unfold stepAt; rw [if_neg (by rw [← TL.out.1]; exact c1), if_pos (by rw [← FL.out.1]; exact c2), ← htv])
          clear htv
          as_aux_lemma =>
            go_wp2_with (first | (refine slice1_lst rfl _ rfl num ⟨13, k, tv⟩ rfl ?_) | (refine app_st rfl _ _ rfl (w0 := w) (num := num) (s := ⟨13, k, tv⟩) (l := stepL frm tos k) (n := n) (v := .slice la n lc) NL.out rfl rfl O2.out B2.out (by have := KN.out; omega) ?_; intro g cap w2 hown hb; (have O3 := Lib.hid hown); (have B3 := Lib.hid hb); clear hown hb))
            go_roundw
            case rel => exact REL.out _ _ _ _ EA.out rfl O3.out B3.out
            case measure => have := HLT.out; simp [RowKit.intOf]; omega
        have c2i : ¬ (fl : Int) ≤ (k : Int) := by omega
        have kfl : (k : Int) < (fl : Int) := by omega
        obtain ⟨fv, hfv⟩ : ∃ fv, fv = frm.getD k ⟨#[]⟩ := ⟨_, rfl⟩
        obtain ⟨fa', fc', fe, -, fcel⟩ := srow_cell F2.out
        obtain ⟨fb, foff, rfl, fcell⟩ : ∃ fb foff, fa = some (⟨fb, foff, none⟩ : Addr) ∧ w1.cell? ⟨fb, foff + k, none⟩ = some (.string fv) := by
          obtain ⟨b, off, e1, e2⟩ := fcel k (by rw [← FL.out.1]; omega)
          rw [← FL.out.1] at fe
          injection fe with fe
          exact ⟨b, off, by rw [fe]; exact e1, by rw [hfv]; exact e2⟩
        clear fe fcel
        have EB := Lib.hid (show stepAt frm tos k = if fv = tv then [] else [⟨15, k, tv⟩] by unfold stepAt; rw [if_neg (by rw [← TL.out.1]; exact c1), if_neg (by rw [← FL.out.1]; exact c2), ← htv, ← hfv])
        clear htv hfv
        by_cases c3 : fv = tv
        · subst c3
          have EA := Lib.hid (show stepL frm tos k ++ [] = stepL frm tos (k + 1) by rw [stepL_succ, EB.out, if_pos rfl])
          have ee : (fv.toList == fv.toList) = true := by simp
          clear EB
          as_aux_lemma =>
            go_upto_region 10 with fail
            go_quiet (fail)
            have B4 := Lib.hid (below_drewN B2.out nq); have O4 := Lib.hid (ow_kept O2.out (below_drewN (Below.refl w1.heap.size w1) nq))
            have t4 : (w1.drewN nq).cell? ⟨tb, toff + k, none⟩ = some (.string fv) := tcell
            generalize w1.drewN nq = w9 at *
            go_wp2
            go_roundw
            case rel => exact REL.out _ _ _ [] EA.out rfl (by rw [List.append_nil]; exact O4.out) B4.out
            case measure => have := HLT.out; simp [RowKit.intOf]; omega
        · have EA := Lib.hid (show stepL frm tos k ++ [⟨15, k, tv⟩] = stepL frm tos (k + 1) by rw [stepL_succ, EB.out, if_neg c3])
          have ee : (fv.toList == tv.toList) = false := toL_ne c3
          clear EB c3
          as_aux_lemma =>
            go_upto_region 10 with fail
            go_quiet (fail)
            have B4 := Lib.hid (below_drewN B2.out nq); have O4 := Lib.hid (ow_kept O2.out (below_drewN (Below.refl w1.heap.size w1) nq))
            have t4 : (w1.drewN nq).cell? ⟨tb, toff + k, none⟩ = some (.string tv) := tcell
            generalize w1.drewN nq = w9 at *
            go_wp2_with (first | (refine slice1_lst rfl _ rfl num ⟨15, k, tv⟩ rfl ?_) | (refine app_st rfl _ _ rfl (w0 := w) (num := num) (s := ⟨15, k, tv⟩) (l := stepL frm tos k) (n := n) (v := .slice la n lc) NL.out rfl rfl O4.out B4.out (by have := KN.out; omega) ?_; intro g cap w2 hown hb; (have O3 := Lib.hid hown); (have B3 := Lib.hid hb); clear hown hb))
            go_roundw
            case rel => exact REL.out _ _ _ _ EA.out rfl O3.out B3.out
            case measure => have := HLT.out; simp [RowKit.intOf]; omega
    · obtain rfl : k = mx := by have := KN.out; omega
      have hni : ¬ (k : Int) < (k : Int) := by omega
      clear hlt
      go_wp2
      go_ret
      exact ⟨_, rfl, by unfold StOwn; rw [← NL.out]; exact O1.out, B1.out⟩
end Go.Proofs.YtaiiimlmkigajaaGreat
namespace Go.Proofs.YtaiiimlmkigajaaGreat
open Go.RowKit Go.Maps

/-- Where each node over nodes has two, there are fewer nodes than twice the leaves. -/
theorem Tr.pages {K C : Type} {lt : K → K → Prop} {N : Nat → Nd K C} {h id : Nat} {a b : Option K} {L I : List Nat} {R : List (K × C)} (t : Tr lt N h id a b L I R) (h2 : ∀ i, i ∈ I → (N i).lv ≠ 0 → 2 ≤ (N i).n) : I.length + 1 ≤ 2 * L.length := by
  induction t with
  | leaf h0 h1 h2 => simp
  | @inner h id a b lf ids rs h0 hn h1 _ hk ih =>
    have n2 := h2 id List.mem_cons_self (by omega)
    have key : ∀ m, m ≤ (N id).n → (flat m ids).length + m ≤ 2 * (flat m lf).length := by
      intro m
      induction m with
      | zero => intro _; simp [flat]
      | succ m ihm =>
        intro hm
        have := ihm (by omega)
        have := ih m (by omega) fun i hi => h2 i (List.mem_cons_of_mem _ (flat_mem.2 ⟨m, by omega, hi⟩))
        rw [flat_succ, flat_succ, List.length_append, List.length_append]
        omega
    have := key _ (Nat.le_refl _)
    simp only [List.length_cons]
    omega
/-- A volume with a store of objects: the pieces that live, and how many leaves there may be. -/
structure Lo (w : World) (B g b gs r M : Nat) (F : Fo) (m : Nat) : Prop where
  ex : ∃ (und pg : Nat → Pg) (H : Nat) (ow : Nat → Option Int) (lf ids : List Nat) (kd : Nat → Nat) (R : List (ByteArray × Ce)), SV w B g b gs r 1024 M und pg ∧ Tv pg 1024 st1 kd rt1 ow 1 H lf ids R False ∧ (∀ i, i < 1024 → (ow i).isSome = true → i < 2 ∨ i ∈ ids) ∧ lf.length ≤ m ∧ Ab R F
section
variable {w w' : World} {B g b gs r M : Nat} {F : Fo} {m : Nat}
theorem Lo.kept (h : Lo w B g b gs r M F m) (hb : Below w.heap.size w w') : Lo w' B g b gs r M F m := by
  obtain ⟨und, pg, H, ow, lf, ids, kd, R, h1, h2⟩ := h.ex
  exact ⟨und, pg, H, ow, lf, ids, kd, R, h1.kept hb, h2⟩
theorem Lo.alloc (h : Lo w B g b gs r M F m) (o : Obj) : Lo (w.alloc o) B g b gs r M F m := h.kept ((Below.refl _ _).alloc (Nat.le_refl _) o)
theorem Lo.b_ge (h : Lo w B g b gs r M F m) : B ≤ b := by
  obtain ⟨und, pg, H, ow, lf, ids, kd, R, h1, h2⟩ := h.ex
  exact h1.b_ge
theorem Lo.ne (h : Lo w B g b gs r M F m) : g < w.heap.size ∧ b < w.heap.size ∧ gs < w.heap.size ∧ r < w.heap.size := by
  obtain ⟨und, pg, H, ow, lf, ids, kd, R, h1, h2⟩ := h.ex
  exact h1.gs_ne
theorem Lo.grown (h : Lo w B g b gs r M F m) {row : Option Nat} (hg : w.grownBy w' row) (hr : ∀ k, row = some k → k ≠ g ∧ k ≠ b ∧ k ≠ gs ∧ k ≠ r) : Lo w' B g b gs r M F m := by
  obtain ⟨und, pg, H, ow, lf, ids, kd, R, h1, h2⟩ := h.ex
  exact ⟨und, pg, H, ow, lf, ids, kd, R, h1.grown hg hr, h2⟩
theorem Lo.cast (h : Lo w B g b gs r M F m) {F' : Fo} {M' m' : Nat} (hF : F = F') (hM : M ≤ M') (hm : m ≤ m') : Lo w B g b gs r M' F' m' := by
  subst hF
  obtain ⟨und, pg, H, ow, lf, ids, kd, R, h1, h2, h3, h4, h5⟩ := h.ex
  exact ⟨und, pg, H, ow, lf, ids, kd, R, h1.mono hM, h2, h3, Nat.le_trans h4 hm, h5⟩
theorem lo_get (h : Lo w B g b gs r M F m) (num : Int) (i : Nat) (hi : inN num i) :
    Calls Tryz.prog 59 #[.pointer (some ⟨g, 0, none⟩), .int .i64 1, .string (lkey num i)] w fun e w' => ((∃ v, F num i = some v ∧ e = .returned (.tuple #[.string v, .int .i64 0])) ∨ (F num i = none ∧ e = .returned (.tuple #[.string ⟨#[]⟩, .int .i64 150]))) ∧ Below w.heap.size w w' := by
  obtain ⟨und, pg, H, ow, lf, ids, kd, R, h1, h2, h3, h4, h5⟩ := h.ex
  refine (tget_any h1 (Nat.le_refl _) h2 (lkey num i)).mono ?_
  obtain ⟨l1, l2⟩ := h5.at_ num i hi
  rintro e w' ⟨(⟨hx, -⟩ | ⟨-, c, hc, hs, he⟩ | ⟨-, hn, he⟩), hb⟩
  · exact absurd (lkey_ok num i) hx
  · refine ⟨.inl ?_, hb⟩
    cases hF : F num i with
    | none => exact absurd hs (l2 hF c hc)
    | some v =>
      obtain ⟨d, g1, g2, g3⟩ := l1 v hF
      have : c = d := rows_one kOrd h2.ix.sorted hc g1
      exact ⟨v, rfl, by rw [he, this, g3]⟩
  · refine ⟨.inr ?_, hb⟩
    cases hF : F num i with
    | none => exact ⟨rfl, he⟩
    | some v =>
      obtain ⟨d, g1, g2, g3⟩ := l1 v hF
      exact absurd g2 (hn d g1)
/-- An object's pieces from one on, and what stands behind them. -/
def rowsK (num : Int) (l : List ByteArray) (j : Nat) : List Kv := (List.range (l.length - j)).map fun t => (lkey num ((j + t : Nat) : Int), l.getD (j + t) ⟨#[]⟩)
theorem lo_range (h : Lo w B g b gs r M F m) (num : Int) (h0 : 0 ≤ num ∧ num < 1000) (l : List ByteArray) (hl : ∀ i, i < 65536 → F num i = l[i]?) (hn : l.length < 65536) (j : Nat) (hj : j ≤ l.length) :
    Calls Tryz.prog 34 #[.pointer (some ⟨g, 0, none⟩), .int .i64 1, .string (lkey num j), .int .i64 64] w fun e w' => ∃ (v : Value) (T : List Kv), e = .returned (.tuple #[v, .int .i64 0]) ∧ KOwn w' w.heap.size v ((rowsK num l j ++ T).take 64) ∧ (∀ p, p ∈ T → p.1 ≠ lkey num l.length) ∧ Below w.heap.size w w' := by
  obtain ⟨und, pg, H, ow, lf, ids, kd, R, h1, h2, h3, h4, h5⟩ := h.ex
  obtain ⟨T, e1, e2⟩ := run_rows h2.ix.sorted (fun x hx => (h2.ix.row hx).1) h5 h0 hl hn hj
  refine (trange_any h1 (Nat.le_refl _) h2 (lkey num j) 64).mono ?_
  rintro e w' ⟨⟨hx, -⟩ | ⟨-, v, he, ho⟩, hb⟩
  · rw [lkey_size] at hx; omega
  · refine ⟨v, T, he, ?_, e2, hb⟩
    have e3 : rangeL R (lkey num j) (64 : Int).toNat = (rowsK num l j ++ T).take 64 := by
      unfold rangeL rowsK
      rw [e1]
      rfl
    rw [← e3]
    exact ho
theorem lo_put (h : Lo w B g b gs r M F m) (hM : M + 40 < maxLen) (hm : m ≤ 500) (num : Int) (i : Nat) (hi : inN num i) (val : ByteArray) (hv : val.size ≤ 20) (hF : F num i = none) :
    Calls Tryz.prog 31 #[.pointer (some ⟨g, 0, none⟩), .int .i64 1, .string (lkey num i), .string val, .slice none 0 0] w fun e w' => ∃ u : Ud, e = .returned (.tuple #[.agg u.cs, .int .i64 0]) ∧ Lo w' B g b gs r (M + 40) (setF F num i (some val)) (m + 1) ∧ w.grownBy w' (some b) := by
  obtain ⟨und, pg, H, ow, lf, ids, kd, R, h1, h2, h3, h4, h5⟩ := h.ex
  have lc := leaf_cell_ok (lkey_ok num i) hv (.inl rfl : (1 : Int) = 1 ∨ (1 : Int) = 2)
  refine (tput_any h1 (Nat.le_refl _) h2 hM (lkey num i) val (by rw [lkey_size]; decide) (by unfold maxLen; omega) (.slice none 0 0) [] (SRow.nil w)).mono ?_
  have fin : ∀ {R' : List (ByteArray × Ce)}, Did R R' (lkey num i) ⟨1, dat (lkey num i) val⟩ [] → Ab R' (setF F num i (some val)) := fun {R'} hd => by
    have := h5.did hd hi
    rw [if_pos rfl, lc.2.2] at this
    exact this
  rintro e w' (⟨hx, -, -⟩ | ⟨-, hx, -, -⟩ | ⟨-, -, hp⟩)
  · exact absurd (lkey_ok num i) hx
  · omega
  rcases hp with ⟨⟨c, hc, hs⟩, -, -⟩ | ⟨c, R', pg', hc, hs, he, hsv, htv, hr, hg, -⟩ | ⟨hab, hg, hp⟩
  · exact absurd hs ((h5.at_ num i hi).2 hF c hc)
  · exact ⟨_, he, ⟨und, pg', H, ow, lf, ids, kd, R', hsv.mono (by omega), htv, h3, by omega, fin (hr.did [])⟩, hg⟩
  · rcases hp with ⟨-, ⟨nn, n1, n2⟩, -⟩ | ⟨he, pg', ow', H', lf', ids', R', R0, news, hs, ht, hl, hin, hpm, hnw, hno, -⟩
    · exfalso
      have fl : ∀ i, i ∈ ids → ((NN pg) i).lv ≠ 0 → 2 ≤ ((NN pg) i).n := fun i hi hl => (h2.ix.pgs i hi).fl (fun e => hl (by show (pg i).l.toNat = 0; rw [e]; rfl))
      have p := h2.ix.tr.pages fl
      have q := h2.ix.tr.many fl
      have H9 : H ≤ 9 := by
        by_cases e : H ≤ 9
        · exact e
        · have : 2 ^ 10 ≤ 2 ^ H := Nat.pow_le_pow_right (by decide) (by omega)
          omega
      have c := nodup_len_le (List.range 1024) (0 :: 1 :: (ids ++ nn)) List.nodup_range (fun x hx => by
        have hx := List.mem_range.1 hx
        simp only [List.mem_cons, List.mem_append]
        rcases n2 x hx with g3 | g3
        · rcases h3 x hx g3 with g4 | g4
          · rcases (show x = 0 ∨ x = 1 by omega) with e | e
            · exact .inl e
            · exact .inr (.inl e)
          · exact .inr (.inr (.inl g4))
        · exact .inr (.inr (.inr g3)))
      simp only [List.length_range, List.length_cons, List.length_append] at c
      omega
    · refine ⟨_, he, ⟨und, pg', H', ow', lf', ids', kd, R', hs, ⟨ht.vol, ht.s1, ht.st, ht.kd, ht.ix.weak (fun h => h.elim)⟩, fun x hx hs2 => ?_, by have := hpm.2; omega, fin (hin.did hl hab)⟩, hg⟩
      by_cases hin : x ∈ news
      · exact .inr (hpm.1.mem_iff.2 (List.mem_append_left _ hin))
      · rw [hno x hin] at hs2
        rcases h3 x hx hs2 with h3 | h3
        · exact .inl h3
        · exact .inr (hpm.1.mem_iff.2 (List.mem_append_right _ h3))
theorem lo_set (h : Lo w B g b gs r M F m) (hM : M + 40 < maxLen) (num : Int) (i : Nat) (hi : inN num i) (val : ByteArray) (hv : val.size ≤ 20) (hF : ∃ v, F num i = some v) :
    Calls Tryz.prog 32 #[.pointer (some ⟨g, 0, none⟩), .int .i64 1, .string (lkey num i), .string val] w fun e w' => ∃ u : Ud, e = .returned (.tuple #[.agg u.cs, .int .i64 0]) ∧ Lo w' B g b gs r (M + 40) (setF F num i (some val)) m ∧ w.grownBy w' (some b) := by
  obtain ⟨und, pg, H, ow, lf, ids, kd, R, h1, h2, h3, h4, h5⟩ := h.ex
  have lc := leaf_cell_ok (lkey_ok num i) hv (.inl rfl : (1 : Int) = 1 ∨ (1 : Int) = 2)
  refine (tset_any h1 (Nat.le_refl _) h2 (by omega) (lkey num i) val (by rw [lkey_size]; decide) (by unfold maxLen; omega)).mono ?_
  obtain ⟨v, hFv⟩ := hF
  obtain ⟨d, g1, g2, g3⟩ := (h5.at_ num i hi).1 v hFv
  rintro e w' (⟨hx, -, -⟩ | ⟨-, hx, -, -⟩ | ⟨-, -, (⟨hn, -, -⟩ | ⟨c, R', pg', hc, hs, he, hsv, htv, hr, hg, -⟩)⟩)
  · exact absurd (lkey_ok num i) hx
  · omega
  · exact absurd g2 (hn d g1)
  · have := h5.did (hr.did []) hi
    rw [if_pos rfl, lc.2.2] at this
    exact ⟨_, he, ⟨und, pg', H, ow, lf, ids, kd, R', hsv.mono (by omega), htv, h3, h4, this⟩, hg⟩
theorem lo_cut (h : Lo w B g b gs r M F m) (hM : M + 40 < maxLen) (num : Int) (i : Nat) (hi : inN num i) (hF : ∃ v, F num i = some v) :
    Calls Tryz.prog 33 #[.pointer (some ⟨g, 0, none⟩), .int .i64 1, .string (lkey num i)] w fun e w' => ∃ u : Ud, e = .returned (.tuple #[.agg u.cs, .int .i64 0]) ∧ Lo w' B g b gs r (M + 40) (setF F num i none) m ∧ w.grownBy w' (some b) := by
  obtain ⟨und, pg, H, ow, lf, ids, kd, R, h1, h2, h3, h4, h5⟩ := h.ex
  refine (tcut_any h1 (Nat.le_refl _) h2 (by omega) (lkey num i)).mono ?_
  obtain ⟨v, hFv⟩ := hF
  obtain ⟨d, g1, g2, g3⟩ := (h5.at_ num i hi).1 v hFv
  rintro e w' (⟨hx, -, -⟩ | ⟨-, (⟨hn, -, -⟩ | ⟨c, R', pg', hc, hs, he, hsv, htv, hr, hg, -⟩)⟩)
  · exact absurd (lkey_ok num i) hx
  · exact absurd g2 (hn d g1)
  · have := h5.did (hr.did []) hi
    rw [if_neg (show ¬ (ghostC c).st = 1 from (by decide : ¬ (2 : Int) = 1))] at this
    exact ⟨_, he, ⟨und, pg', H, ow, lf, ids, kd, R', hsv.mono (by omega), htv, h3, h4, this⟩, hg⟩
end
/-- A new volume with a store of objects. -/
theorem make_object {w : World} {B g b gs r M : Nat} {und : Nat → Pg} (h : SV w B g b gs r 1024 M und (pvT (1024 : Nat))) (hM : M + 2 < maxLen) :
    Calls Tryz.prog 24 #[.pointer (some ⟨g, 0, none⟩), .int .i64 3] w fun e w' => e = .returned (.tuple #[.int .i64 1, .int .i64 0]) ∧ Lo w' B g b gs r (M + 3) (fun _ _ => none) 1 ∧ w.grownBy w' (some b) := by
  have h1 : 4 ≤ 1024 := by decide
  have h2 : 1024 ≤ 1024 := Nat.le_refl _
  have own : ∀ i, i < 1632 → ownB (mapN (1024 : Nat)) i = decide (i < 2) := fun i hi => mapN_own 1024 h1 h2 i hi
  refine (make_3 h (by omega) (Nat.le_refl _) rfl dir0_ok (mapN_ok 1024 h1 h2) hM).mono ?_
  rintro e w' (⟨hf, _⟩ | ⟨j, _, _, hf, _⟩ | ⟨j, id, hj, h0, hq, hi, hn1, ha, he, hs, hg⟩)
  · exact absurd rfl (hf 0 (by omega))
  · have := hf 2 (by omega)
    rw [show (pvT (1024 : Nat)) 1 = mapN (1024 : Nat) from rfl, own 2 (by omega)] at this
    cases this
  · have j0 : j = 0 := by
      rcases Nat.eq_zero_or_pos j with e | e
      · exact e
      · exact absurd rfl (hq 0 e)
    have i2 : id = 2 := by
      rw [show (pvT (1024 : Nat)) 1 = mapN (1024 : Nat) from rfl, own id (by omega)] at hn1
      have h3 : ¬ id < 2 := by simpa using hn1
      by_cases h4 : id = 2
      · exact h4
      · have := ha 2 (by omega)
        rw [show (pvT (1024 : Nat)) 1 = mapN (1024 : Nat) from rfl, own 2 (by omega)] at this
        cases this
    subst j0; subst i2
    have hv := (vol_new pz 1024 h1 h2).make 0 2 (by omega) (by omega) (by omega) 3 (by omega)
    have old := tl_new 1024 h1 h2
    obtain ⟨pgx, hpx⟩ : ∃ pgx, pgx = (upd (upd (upd (pvT (1024 : Nat)) 1 (mrk (mapN (1024 : Nat)) 2 true)) 2 (newPg 3 0)) 0 (putC dir0 0 ⟨1, stoD 3 2⟩)) := ⟨_, rfl⟩
    have ix : Ix pgx 1024 (put ow0 2 (some ((0 : Nat) + 1 : Int))) ((1 : Nat) : Int) (rt1 (1 - 1)) 0 [2] [2] [] False := by
      have p2 : pgx 2 = newPg 2 0 := by rw [hpx]; rfl
      refine ⟨?_, by simp, fun i hi => ?_, (by show (pgx 2).n.toNat = 0; rw [p2]; rfl), fun h => h.elim, h2⟩
      · have := Tr.leaf (lt := kL) (N := NN pgx) (id := 2) (a := none) (b := none) (by show (pgx 2).l.toNat = 0; rw [p2]; rfl) (fun q hq => by
          have hq2 : q < cnt (pgx 2).c := hq
          rw [p2, newPg_cnt] at hq2; omega) (fun q r _ hr => by
          have hq2 : r < cnt (pgx 2).c := hr
          rw [p2, newPg_cnt] at hq2; omega)
        have e3 : (NN pgx 2).rows = [] := by
          show (List.range (cnt (pgx 2).c)).map _ = []
          rw [p2, newPg_cnt]; rfl
        rw [e3] at this
        exact this
      · obtain rfl : i = 2 := by simpa using hi
        exact ⟨by omega, by omega, by rw [p2]; exact newPg_nd, by rw [p2]; exact newPg_ok 2 0 (by omega), put_at _ _ _, by rw [p2]; rfl, fun h => absurd (by rw [p2]; rfl) h⟩
    refine ⟨he, ⟨und, pgx, 0, _, [2], [2], put (fun _ => 0) 0 3, [], by rw [hpx]; exact hs, ⟨by rw [hpx]; exact hv, by omega, put_at _ _ _, .inr (put_at _ _ _), ix⟩, fun i hi ho => ?_, Nat.le_refl 1, Ab.nil⟩, hg⟩
    by_cases e : i = 2
    · exact .inr (by simp [e])
    · rw [put_ne _ _ e] at ho
      unfold ow0 at ho
      by_cases h : i < 2
      · exact .inl h
      · rw [if_neg h] at ho; cases ho
end Go.Proofs.YtaiiimlmkigajaaGreat
namespace Go.Proofs.YtaiiimlmkigajaaGreat
open Go.RowKit Go.Maps Go.ChangeShapes Go.WideShapes Go.ChangeAt Go.Deep

/-- Two rows of different kinds: while one grows the other is kept. -/
theorem ow_other {w w' : World} {B B' : Nat} {e e' : TypeId} {size size' n n' : Nat} {v v' : Value} {xs xs' : List Value} (h : w.ownsRow B e size v n xs) (ho : w.ownsRow B' e' size' v' n' xs') (hg : w.grownBy w' v'.ownBlock) (hne : e ≠ e') : w'.ownsRow B e size v n xs :=
  ow_same h fun k hk => hg.block k (ow_blk h hk).2.1 fun he => by
    obtain ⟨c1, h1⟩ := (ow_blk h hk).2.2
    obtain ⟨c2, h2⟩ := (ow_blk ho he.symm).2.2
    have h3 : w.heap[k]? = some (.cells c1 e) := h1
    have h4 : w.heap[k]? = some (.cells c2 e') := h2
    rw [h3] at h4
    injection h4 with h4
    injection h4 with _ h4
    exact hne h4
section
variable {ops : Array Oper} {rest : List Oper} {o : Oper} {a : Act} {w : World} {Q : Exit → Act → World → Prop}
/-- A text more. -/
theorem app_tx (hg : o.guard = none) (x y : Operand) (ho : o.op = .call { callee := .builtin .append, args := #[x, y], argTypes := #[29, 29] }) {B0 : Nat} {s : ByteArray} {l : List ByteArray} {n : Nat} {v : Value}
    (hx : a.eval x = v) (hy : a.eval y = .slice (some ⟨w.heap.size, 0, none⟩) 1 1) (hown : w.ownsRow B0 9 1 v n (txL l)) (hb : B0 ≤ w.heap.size) (hl : n ≤ 1000000)
    (h : ∀ g cap w', w'.ownsRow B0 9 1 (.slice (some ⟨g, 0, none⟩) (n + 1) cap) (n + 1) (txL (l ++ [s])) → w.grownBy w' v.ownBlock → wpList Tryz.prog ops Q rest (a.put o.dst (.slice (some ⟨g, 0, none⟩) (n + 1) cap)) w') :
    wpList Tryz.prog ops Q (o :: rest) a (w.alloc (.cells #[.string s] 9)) := by
  obtain ⟨i0, hi, hz0, hz1, hz2⟩ := info_parts infoTx
  refine wpList_append_lies (w.alloc (.cells #[.string s] 9)) hg x y 29 ho B0 9 i0 _ 1 16 Tryz.underlying29 hi hz0 hz1 hz2 rfl (by decide) v n (txL l) hx (ow_kept hown ((Below.refl w.heap.size w).alloc (Nat.le_refl _) _)) ⟨w.heap.size, 0, none⟩ 1 1 [.string s] hy rfl (fun j u hu => ?_) (fun u hu => by rw [List.mem_singleton.1 hu]; rfl) (by decide) (by unfold maxLen; omega) (by omega) (by rw [World.size_alloc]; exact Nat.le_succ_of_le hb) _ rfl ?_
  · match j, hu with
    | 0, hu => obtain rfl : Value.string s = u := by simpa using hu
               exact (Bk.new w 9 #[.string s]).cell 0
  · intro g cap w' hown' hgrow _ _
    rw [show txL l ++ [.string s] = txL (l ++ [s]) by rw [txL_app]; rfl] at hown'
    exact h g cap w' hown' (World.grownBy.trans (World.grownBy_alloc w _ _) hgrow)
end
theorem kv_at {w : World} {base n : Nat} {v : Value} {l : List Kv} (h : w.ownsRow base 83 3 v n (kvL l)) {i : Nat} {p : Kv} (hn : i < n) (hi : l[i]? = some p) : ∃ g cap, v = .slice (some ⟨g, 0, none⟩) n cap ∧ w.rangeAt g (i * 3) (encK p) := by
  obtain ⟨g, cap, hv, h1, h2⟩ := World.ownsRow.form h (by omega)
  refine ⟨g, cap, hv, fun j v' hv' => ?_⟩
  have hj : j < 3 := by have := (List.getElem?_eq_some_iff.1 hv').1; rwa [show (encK p).length = 3 from rfl] at this
  subst hv
  have := World.ownsRow.cells h (g := g) rfl (i * 3 + j) v' (by rw [kvL_get l i p hi j hj]; exact hv')
  rw [Addr.add_lit, Nat.zero_add] at this
  exact this
def PcP (w : World) (num : Int) (l : List ByteArray) (e : Ending) (w' : World) : Prop :=
  ((¬ (0 ≤ num ∧ num < 1000) ∧ e = .returned (.tuple #[.slice none 0 0, .int .i64 1])) ∨ ((0 ≤ num ∧ num < 1000) ∧ l = [] ∧ e = .returned (.tuple #[.slice none 0 0, .int .i64 150])) ∨
    ((0 ≤ num ∧ num < 1000) ∧ l ≠ [] ∧ ∃ v, e = .returned (.tuple #[v, .int .i64 0]) ∧ TxOwn w' w.heap.size v l)) ∧ Below w.heap.size w w'
def lnV : Value → Nat
  | .slice _ n _ => n
  | _ => 0
def bnV : Value → Nat
  | .bool true => 1
  | _ => 0
set_option maxRecDepth 100000 in
set_option maxHeartbeats 24000000 in
theorem pieces_any {w : World} {B g b gs r M : Nat} {F : Fo} {m : Nat} (h : Lo w B g b gs r M F m) (num : Int) (l : List ByteArray) (hl : 0 ≤ num ∧ num < 1000 → ∀ i, i < 65536 → F num i = l[i]?) (hn : l.length ≤ 300) :
    Calls Tryz.prog 36 #[.pointer (some ⟨g, 0, none⟩), .int .i64 1, .int .i64 num] w (PcP w num l) := by
  have HV := Lib.hid h; have HL := Lib.hid hl; have HN := Lib.hid hn
  have NE := Lib.hid h.ne
  have BAD := Lib.hid (show ¬ (0 ≤ num ∧ num < 1000) → PcP w num l (.returned (.tuple #[.slice none 0 0, .int .i64 1])) w from fun h => ⟨.inl ⟨h, rfl⟩, Below.refl _ _⟩)
  have NIL := Lib.hid (show ∀ w', 0 ≤ num ∧ num < 1000 → l = [] → Below w.heap.size w w' → PcP w num l (.returned (.tuple #[.slice none 0 0, .int .i64 150])) w' from fun w' h1 h2 h3 => ⟨.inr (.inl ⟨h1, h2, rfl⟩), h3⟩)
  have YES := Lib.hid (show ∀ w' v, 0 ≤ num ∧ num < 1000 → l ≠ [] → TxOwn w' w.heap.size v l → Below w.heap.size w w' → PcP w num l (.returned (.tuple #[v, .int .i64 0])) w' from fun w' v h1 h2 h3 h4 => ⟨.inr (.inr ⟨h1, h2, v, rfl, h3⟩), h4⟩)
  clear h hl hn
  go_enter Tryz.func36, Tryz.ntmps36
  by_cases c0 : num < 0
  · have := Lib.hid (BAD.out (by omega))
    go_wp2
    refine bodyPost_ret (v := .tuple #[.slice none 0 0, .int .i64 1]) (by simp [results, Tryz.results36, go_sem]) rfl ?_
    exact this.out
  by_cases c1 : (1000 : Int) ≤ num
  · have := Lib.hid (BAD.out (by omega))
    go_wp2
    refine bodyPost_ret (v := .tuple #[.slice none 0 0, .int .i64 1]) (by simp [results, Tryz.results36, go_sem]) rfl ?_
    exact this.out
  have IN := Lib.hid (show 0 ≤ num ∧ num < 1000 by omega)
  have CK := Lib.hid (lkey_any num 0 w (by omega) (by omega))
  clear BAD
  as_aux_lemma =>
    go_wp2_with fail
    refine CK.out.mono ?_
    rintro e w1 ⟨rfl, hb⟩
    have V1 := Lib.hid (HV.out.kept hb); have B1 := Lib.hid hb
    have CG := lo_get V1.out num 0 ⟨IN.out.1, IN.out.2, by decide⟩
    rw [show ((0 : Nat) : Int) = 0 from rfl] at CG
    have CG := Lib.hid CG
    clear hb CK HV
    as_aux_lemma =>
      go_wp2_with fail
      refine CG.out.mono ?_
      rintro e w2 ⟨⟨v0, hF, rfl⟩ | ⟨hF, rfl⟩, hb⟩
      · have V2 := Lib.hid (V1.out.kept hb); have B2 := Lib.hid (below_then B1.out hb B1.out.size)
        have L0 := Lib.hid (show l[0]? = some v0 by rw [← HL.out IN.out 0 (by decide)]; exact hF)
        have T1 : l.take 1 = [v0] := by
          have h0 := L0.out
          cases hl : l with
          | nil => rw [hl] at h0; simp at h0
          | cons x t => rw [hl] at h0; simp at h0; rw [h0]; rfl
        have O2 := Lib.hid (show (w2.alloc (.cells #[.string v0] 9)).ownsRow w.heap.size 9 1 (.slice (some ⟨w2.heap.size, 0, none⟩) 1 1) 1 (txL (l.take 1)) from by
          rw [T1]
          exact World.ownsRow_lit w2 #[.string v0] 1 B2.out.size (by decide) rfl)
        have LP := Lib.hid (show 1 ≤ l.length from by
          have h0 := L0.out
          have := (List.getElem?_eq_some_iff.1 h0).1
          omega)
        have V3 := Lib.hid (V2.out.alloc (.cells #[.string v0] 9)); have B3 := Lib.hid (B2.out.alloc B2.out.size (.cells #[.string v0] 9))
        clear hb hF T1 V1 B1 CG V2 B2
        as_aux_lemma =>
          go_upto_region 8 with (refine slice1_tx rfl _ rfl v0 rfl ?_)
          generalize w2.alloc (.cells #[.string v0] 9) = w3 at *
          obtain ⟨a3, c3, e3⟩ : ∃ a3 c3, (Value.slice (some ⟨w2.heap.size, 0, none⟩) 1 1) = .slice a3 1 c3 := ⟨_, _, rfl⟩
          rw [e3] at O2 ⊢
          clear e3
          go_loopw [10, 11] (fun ls mv wr => ∃ (n : Nat) (mb : Bool), mv = .bool mb ∧ 1 ≤ n ∧ n ≤ l.length ∧ (mb = false → n = l.length) ∧ wr.ownsRow w.heap.size 9 1 ls n (txL (l.take n)) ∧ Lo wr B g b gs r M F m ∧ Below w.heap.size w wr) (fun ls mv _ => (l.length - lnV ls) + bnV mv)
          case atStart => exact ⟨1, true, rfl, Nat.le_refl 1, LP.out, (fun h => (by cases h)), O2.out, V3.out, B3.out⟩
          case round =>
            clear O2 V3 B3
            obtain ⟨n, mb, rfl, h1, h2, h3, ho, hv, hb⟩ := hrel
            have O := Lib.hid ho; have V := Lib.hid hv; have BW := Lib.hid hb; have NN := Lib.hid (show 1 ≤ n ∧ n ≤ l.length from ⟨h1, h2⟩); have N3 := Lib.hid h3
            obtain ⟨la, lc, rfl⟩ := ow_slice ho
            clear h1 h2 h3 ho hv hb
            have n300 : n ≤ 300 := by have := NN.out; have := HN.out; omega
            have ni : (n : Int) < 4096 := by omega
            cases mb with
            | false =>
              have Y1 := Lib.hid (YES.out wr (.slice la n lc) IN.out (fun h => by have := LP.out; rw [h] at this; exact absurd this (by decide)) (by
                have e : n = l.length := N3.out rfl
                have := O.out
                rw [e, List.take_length] at this
                rw [e]
                exact this) BW.out)
              as_aux_lemma =>
                go_wp2
                refine bodyPost_ret (v := .tuple #[.slice la n lc, .int .i64 0]) (by simp [results, Tryz.results36, go_sem]) rfl ?_
                exact Y1.out
            | true =>
              have CK := Lib.hid (lkey_any num n wr (by have := IN.out; omega) (by omega))
              clear N3 YES NIL
              as_aux_lemma =>
                go_wp2_with fail
                refine CK.out.mono ?_
                rintro e w1 ⟨rfl, hb⟩
                have V1 := Lib.hid (V.out.kept hb); have B1 := Lib.hid (below_then BW.out hb BW.out.size); have O1 := Lib.hid (ow_kept O.out hb)
                have CR := Lib.hid (lo_range V1.out num IN.out l (HL.out IN.out) (by have := HN.out; omega) n NN.out.2)
                clear hb CK V BW O
                as_aux_lemma =>
                  go_wp2_with fail
                  refine CR.out.mono ?_
                  rintro e w2 ⟨pv, T, rfl, hk, hT, hb⟩
                  obtain ⟨L, hL⟩ : ∃ L, L = (rowsK num l n ++ T).take 64 := ⟨_, rfl⟩
                  rw [← hL] at hk
                  obtain ⟨pn, hpn⟩ : ∃ pn, pn = L.length := ⟨_, rfl⟩
                  have K2 := hk
                  unfold KOwn at K2
                  rw [← hpn] at K2
                  obtain ⟨pa, pc, rfl⟩ := ow_slice K2
                  have rk : (rowsK num l n).length = l.length - n := by unfold rowsK; simp
                  have plen : pn = min 64 ((l.length - n) + T.length) := by rw [hpn, hL, List.length_take, List.length_append, rk]
                  have PL := Lib.hid plen
                  have ROW := Lib.hid (show ∀ t, t < pn → (n + t < l.length → L[t]? = some (lkey num ((n + t : Nat) : Int), l.getD (n + t) ⟨#[]⟩)) ∧ (n + t = l.length → ∃ p, L[t]? = some p ∧ p.1 ≠ lkey num ((n + t : Nat) : Int)) from fun t ht => by
                    rw [hL, List.getElem?_take, if_pos (by omega)]
                    constructor
                    · intro h1
                      rw [List.getElem?_append_left (by rw [rk]; omega)]
                      unfold rowsK
                      simp [List.getElem?_range (show t < l.length - n by omega)]
                    · intro h1
                      rw [List.getElem?_append_right (by rw [rk]; omega), rk]
                      have h2 : t - (l.length - n) < T.length := by omega
                      refine ⟨_, List.getElem?_eq_getElem h2, ?_⟩
                      rw [h1]
                      exact hT _ (List.getElem_mem h2))
                  have HK := Lib.hid K2
                  have V2 := Lib.hid (V1.out.kept hb); have B2 := Lib.hid (below_then B1.out hb B1.out.size); have O2 := Lib.hid (ow_kept O1.out hb)
                  have HPN := Lib.hid hpn
                  have p64 : pn ≤ 64 := by omega
                  have P64 := Lib.hid p64
                  obtain ⟨P0, hP0⟩ : ∃ P0, P0 = w1.heap.size := ⟨_, rfl⟩
                  rw [← hP0] at HK
                  clear hL hT hk K2 hb CR V1 B1 O1 rk plen hpn hP0
                  obtain ⟨mq, hmq⟩ : ∃ mq, mq = ((pn : Int) == 64) := ⟨_, rfl⟩
                  have MQ := Lib.hid hmq
                  as_aux_lemma =>
                    go_upto_region 14 with fail
                    rw [← hmq]
                    clear hmq
                    go_loopw [10, 11, 59] (fun ls mv iv wr => ∃ t : Nat, iv = .int .i64 t ∧ mv = .bool mq ∧ t ≤ pn ∧ n + t ≤ l.length ∧ wr.ownsRow w.heap.size 9 1 ls (n + t) (txL (l.take (n + t))) ∧ wr.ownsRow P0 83 3 (.slice pa pn pc) pn (kvL L) ∧ Lo wr B g b gs r M F m ∧ Below w.heap.size w wr) (fun _ _ iv _ => pn - (RowKit.intOf iv).toNat)
                    case atStart => exact ⟨0, rfl, rfl, Nat.zero_le _, NN.out.2, O2.out, HK.out, V2.out, B2.out⟩
                    case round =>
                      clear O2 HK V2 B2
                      obtain ⟨t, rfl, rfl, h1, h2, ho, hk, hv, hb⟩ := hrel
                      obtain ⟨q, hq⟩ : ∃ q, q = n + t := ⟨_, rfl⟩
                      rw [← hq] at h2 ho
                      have QB := Lib.hid (show t ≤ pn ∧ q ≤ l.length ∧ q = n + t from ⟨h1, h2, hq⟩)
                      obtain ⟨la2, lc2, rfl⟩ := ow_slice ho
                      have O := Lib.hid ho; have V := Lib.hid hv; have BW := Lib.hid hb; have HK := Lib.hid hk
                      clear h1 h2 ho hk hv hb hq
                      have q300 : q ≤ 300 := by have := QB.out; have := HN.out; omega
                      by_cases hlt : t < pn
                      · obtain ⟨p, hp⟩ : ∃ p, L[t]? = some p := ⟨_, List.getElem?_eq_getElem (by rw [← HPN.out]; exact hlt)⟩
                        obtain ⟨g2, pc', e1, hrow⟩ := kv_at HK.out hlt hp
                        obtain ⟨rfl, rfl⟩ : pa = some ⟨g2, 0, none⟩ ∧ pc = pc' := by injection e1 with a1 _ a2; exact ⟨a1, a2⟩
                        have x0 : wr.cell? ⟨g2, t * 3, none⟩ = some (.string p.1) := hrow 0 _ rfl
                        have x1 : wr.cell? ⟨g2, t * 3 + 1, none⟩ = some (.int .i64 0) := hrow 1 _ rfl
                        have x2 : wr.cell? ⟨g2, t * 3 + 2, none⟩ = some (.string p.2) := hrow 2 _ rfl
                        have hlti : (t : Int) < (pn : Int) := by omega
                        have tb : t < 9223372036854775807 := by omega
                        have HLT := Lib.hid hlt
                        have RW := Lib.hid (show (q < l.length → p = (lkey num (q : Int), l.getD q ⟨#[]⟩)) ∧ (q = l.length → p.1 ≠ lkey num (q : Int)) from by
                          obtain ⟨r1, r2⟩ := ROW.out t hlt
                          rw [← QB.out.2.2, hp] at r1 r2
                          refine ⟨fun h => by simpa using r1 h, fun h => ?_⟩
                          obtain ⟨p', e, h2⟩ := r2 h
                          injection e with e
                          rw [e]; exact h2)
                        clear hp e1 hrow hlt
                        as_aux_lemma =>
                          go_upto_region 16 with fail
                          have V5 := Lib.hid (V.out.alloc (.cells #[.string p.1, .int .i64 0, .string p.2] 83))
                          have BB : Below wr.heap.size wr (wr.alloc (.cells #[.string p.1, .int .i64 0, .string p.2] 83)) := (Below.refl _ _).alloc (Nat.le_refl _) _
                          have B5 := Lib.hid (below_then BW.out BB BW.out.size); have O5 := Lib.hid (ow_kept O.out BB); have HK5 := Lib.hid (ow_kept HK.out BB)
                          have KP := Lib.hid (Bk.new wr 83 #[.string p.1, .int .i64 0, .string p.2])
                          obtain ⟨PB, hPB⟩ : ∃ PB, PB = wr.heap.size := ⟨_, rfl⟩
                          rw [← hPB] at KP ⊢
                          clear BB x0 x1 x2 V BW O HK hPB
                          generalize wr.alloc (.cells #[.string p.1, .int .i64 0, .string p.2] 83) = w5 at *
                          have x0 := fun x : Kp w5 => x.cell (KP.out.cell 0)
                          have CKy := Lib.hid (fun wx => lkey_any num q wx (by have := IN.out; omega) (by omega))
                          obtain ⟨bq, hbq⟩ : ∃ bq, (p.1.toList == (lkey num (q : Int)).toList) = bq := ⟨_, rfl⟩
                          have QQ := Lib.hid (show (bq = true → q < l.length ∧ p = (lkey num (q : Int), l.getD q ⟨#[]⟩)) ∧ (bq = false → q = l.length) from by
                            have e1 : bq = true ↔ p.1 = lkey num q := by rw [← hbq]; exact seq_iff _ _
                            obtain ⟨r1, r2⟩ := RW.out
                            have hql := QB.out.2.1
                            by_cases h : q < l.length
                            · exact ⟨fun _ => ⟨h, r1 h⟩, fun hb => by
                                have h3 := e1.2 (by rw [r1 h])
                                rw [hb] at h3; cases h3⟩
                            · have hq : q = l.length := by omega
                              exact ⟨fun hb => absurd (e1.1 hb) (r2 hq), fun _ => hq⟩)
                          refine wp_region_kept (by kernel_rfl) (by kernel_rfl) ?_
                          repeat (first
                            | go_big_quiet_skip
                            | (go_big_quiet_want; go_big_quiet_op; first | go_big_quiet_on | go_big_quiet_call (exact kp_call (CKy.out _))))
                          refine wpQuiet_nil ?_
                          rintro _ ⟨x, rfl⟩
                          have V6 := Lib.hid (V5.out.kept x.2); have B6 := Lib.hid (below_then B5.out x.2 B5.out.size); have O6 := Lib.hid (ow_kept O5.out x.2); have HK6 := Lib.hid (ow_kept HK5.out x.2); have KP6 := Lib.hid (KP.out.kept x.2)
                          clear x0 V5 B5 O5 HK5 KP CKy hbq RW
                          generalize x.1 = w6 at V6 B6 O6 HK6 KP6 ⊢
                          clear x
                          cases bq with
                          | true =>
                            have QL := Lib.hid (QQ.out.1 rfl)
                            have x2 : w6.cell? ⟨PB, 2, none⟩ = some (.string p.2) := KP6.out.cell 2
                            have EX := Lib.hid (show l.take q ++ [p.2] = l.take (q + 1) from by
                              rw [QL.out.2, List.getD_eq_getElem?_getD, List.take_add_one, List.getElem?_eq_getElem QL.out.1]
                              rfl)
                            as_aux_lemma =>
                              go_wp2_with (first | (refine slice1_tx rfl _ rfl p.2 rfl ?_) | (refine app_tx rfl _ _ rfl (B0 := w.heap.size) (s := p.2) (l := l.take q) (n := q) (v := .slice la2 q lc2) rfl rfl O6.out B6.out.size (by omega) ?_; intro g7 cap7 w7 hown hgr; (have O7 := Lib.hid hown); (have G7 := Lib.hid hgr); clear hown hgr))
                              have HK7 := ow_other HK6.out O6.out G7.out (by decide)
                              have R7 := Lib.hid (show ∀ k, (Value.slice la2 q lc2).ownBlock = some k → w.heap.size ≤ k from fun k hk => (ow_blk O6.out hk).1)
                              have V7 := V6.out.grown G7.out (fun k hk => by have := R7.out k hk; have := NE.out; omega)
                              have B7 := bl_grow B6.out G7.out (fun k hk => R7.out k hk) B6.out.size
                              refine ⟨⟨t + 1, by push_cast; rfl, rfl, by have := HLT.out; omega, by have := QB.out; have := QL.out.1; omega, ?_, HK7, V7, B7⟩, by have := HLT.out; simp [RowKit.intOf]; omega⟩
                              have h7 := O7.out
                              rw [EX.out] at h7
                              rw [show n + (t + 1) = q + 1 by have := QB.out; omega]
                              exact h7
                          | false =>
                            have QL := Lib.hid (QQ.out.2 rfl)
                            as_aux_lemma =>
                              go_wp2
                              exact ⟨⟨q, false, rfl, by have := QB.out; have := NN.out; omega, by have := QB.out; omega, fun _ => QL.out, O6.out, V6.out, B6.out⟩, by
                                have := QB.out; have := NN.out
                                show l.length - q + 0 < l.length - n + 1
                                omega⟩
                      · obtain rfl : t = pn := by have := QB.out; omega
                        have hni : ¬ (t : Int) < (t : Int) := by omega
                        have FIN := Lib.hid (show (mq = false → q = l.length) ∧ (mq = true → t = 64) from by
                          have e := MQ.out
                          have p := PL.out; have qb := QB.out
                          constructor
                          · intro hm
                            rw [hm] at e
                            have h64 : t ≠ 64 := fun h => by rw [h] at e; exact absurd e (by decide)
                            omega
                          · intro hm
                            rw [hm] at e
                            have : (t : Int) = 64 := by simpa using e.symm
                            omega)
                        clear hlt
                        as_aux_lemma =>
                          go_wp2
                          exact ⟨⟨q, mq, rfl, by have := QB.out; have := NN.out; omega, by have := QB.out; omega, FIN.out.1, O.out, V.out, BW.out⟩, by
                            have := QB.out; have := NN.out; have f := FIN.out
                            show l.length - q + bnV (.bool mq) < l.length - n + 1
                            cases mq with
                            | false => show l.length - q + 0 < l.length - n + 1; omega
                            | true => have := f.2 rfl; show l.length - q + 1 < l.length - n + 1; omega⟩
      · have L0 : l = [] := by
          have h0 := HL.out IN.out 0 (by decide)
          rw [hF] at h0
          cases hl : l with
          | nil => rfl
          | cons x t => rw [hl] at h0; simp at h0
        have N1 := Lib.hid (NIL.out w2 IN.out L0 (below_then B1.out hb B1.out.size))
        clear hb L0 hF
        go_wp2
        refine bodyPost_ret (v := .tuple #[.slice none 0 0, .int .i64 150]) (by simp [results, Tryz.results36, go_sem]) rfl ?_
        exact N1.out
end Go.Proofs.YtaiiimlmkigajaaGreat
