/- Layer 16: what was done is taken back: plain. Undos that were appended. Layer 16: ranges in parts: plain. -/
import Derived.Test.YtaiiimlmkigajaaGreatTrLaw
import Derived.Deep.AppendLies
import Derived.Great.BuildSlice
set_option linter.unusedVariables false
set_option linter.unusedSimpArgs false
namespace Go.Proofs.YtaiiimlmkigajaaGreat
open Go.RowKit Go.Maps

abbrev Cells := ByteArray × Ce → Prop
/-- The live cells. -/
def lvS (R : List (ByteArray × Ce)) : Cells := fun x => x ∈ R ∧ x.2.st = 1
/-- A key's cell is as it was. -/
def backS (L : Cells) (k : ByteArray) (c0 : Ce) : Cells := fun x => (x.1 ≠ k ∧ L x) ∨ (x = (k, c0) ∧ c0.st = 1)
theorem backS_congr {L L' : Cells} (h : ∀ x, L x ↔ L' x) (k : ByteArray) (c0 : Ce) (x : ByteArray × Ce) : backS L k c0 x ↔ backS L' k c0 x := by
  unfold backS; rw [h x]
abbrev Und := ByteArray × Ce
def udOf (p : Und) : Ud := udK 1 p.1 p.2
/-- What was done, one thing after another: S tells the live cells behind each. -/
structure Don (S : Nat → Cells) (us : List Und) : Prop where
  at_ : ∀ (i : Nat) (p : Und), us[i]? = some p → keyOk p.1 ∧ (p.2.st ≠ 0 → leafCellOk p.2 ∧ p.2.key = p.1) ∧ ∀ x, backS (S (i + 1)) p.1 p.2 x ↔ S i x
theorem Don.nil (L : Cells) : Don (fun _ => L) [] := ⟨fun i p h => by simp at h⟩
theorem Don.snoc {S : Nat → Cells} {us : List Und} (h : Don S us) (p : Und) (L : Cells) (h1 : keyOk p.1) (h2 : p.2.st ≠ 0 → leafCellOk p.2 ∧ p.2.key = p.1) (h3 : ∀ x, backS L p.1 p.2 x ↔ S us.length x) : Don (fun i => if i ≤ us.length then S i else L) (us ++ [p]) where
  at_ := fun i q hi => by
    have hl := (List.getElem?_eq_some_iff.1 hi).1
    rw [List.length_append, List.length_singleton] at hl
    by_cases e : i = us.length
    · subst e
      obtain rfl : p = q := by simpa using hi
      refine ⟨h1, h2, fun x => ?_⟩
      rw [if_neg (by omega), if_pos (Nat.le_refl _)]
      exact h3 x
    · rw [List.getElem?_append_left (by omega)] at hi
      obtain ⟨a, b, c⟩ := h.at_ i q hi
      refine ⟨a, b, fun x => ?_⟩
      rw [if_pos (by omega), if_pos (by omega)]
      exact c x
/-- All that was touched is there. -/
def Pres (R : List (ByteArray × Ce)) (us : List Und) : Prop := ∀ p, p ∈ us → ∃ c, (p.1, c) ∈ R
theorem Pres.step {R R2 : List (ByteArray × Ce)} {us : List Und} {k : ByteArray} {u : Ud} (h : Pres R us) (hs : Step16 R (us.map (·.1)) k u R2) : Pres R2 us := by
  rcases hs with ⟨-, rfl⟩ | ⟨c0, c1, -, -, -, -, h1, -, h3⟩
  · exact h
  · intro p hp
    obtain ⟨c, hc⟩ := h p hp
    by_cases e : p.1 = k
    · exact ⟨c1, by rw [e]; exact h1⟩
    · rcases h3 _ hc e with h4 | ⟨-, h4⟩
      · exact ⟨c, h4⟩
      · exact absurd (List.mem_map.2 ⟨p, hp, rfl⟩) h4
/-- A change, taken back. -/
theorem did_back {pg : Nat → Pg} {n H : Nat} {ids : List Nat} {R R2 : List (ByteArray × Ce)} {ff : Prop} {k : ByteArray} {c c0 : Ce} {keep : List ByteArray} (ht : Tl pg n H ids R ff) (h0 : (c0 = czero ∧ ∀ d, (k, d) ∉ R) ∨ (k, c0) ∈ R) (hd : Did R R2 k c keep) (x : ByteArray × Ce) : backS (lvS R2) k c0 x ↔ lvS R x := by
  obtain ⟨h1, h2, h3⟩ := hd
  unfold backS lvS
  constructor
  · rintro (⟨e, hx, hl⟩ | ⟨rfl, hl⟩)
    · rcases h2 x hx with e2 | ⟨h, -⟩
      · rw [e2] at e; exact absurd rfl e
      · exact ⟨h, hl⟩
    · rcases h0 with ⟨rfl, -⟩ | h
      · exact absurd hl (by decide)
      · exact ⟨h, hl⟩
  · rintro ⟨hx, hl⟩
    by_cases e : x.1 = k
    · refine .inr ?_
      rcases h0 with ⟨-, h⟩ | h
      · refine absurd ?_ (h x.2)
        rw [← e]; exact hx
      · have h4 : x.2 = c0 := ht.one (show (k, x.2) ∈ R by rw [← e]; exact hx) h
        rw [← h4, ← e]
        exact ⟨rfl, hl⟩
    · refine .inl ⟨e, ?_, hl⟩
      rcases h3 x hx e with h | ⟨h, -⟩
      · exact h
      · rw [hl] at h; exact absurd h (by decide)
theorem set_back {R R2 : List (ByteArray × Ce)} {k : ByteArray} {c c0 : Ce} (hr : RSet R R2 k (backC c0 c)) (x : ByteArray × Ce) : lvS R2 x ↔ backS (lvS R) k c0 x := by
  unfold lvS backS
  rw [hr x]
  have e1 : c0.st = 0 → (backC c0 c).st = 2 := fun h => by unfold backC; rw [if_pos h]; rfl
  have e2 : c0.st ≠ 0 → backC c0 c = c0 := fun h => by unfold backC; rw [if_neg h]
  constructor
  · rintro ⟨rfl | ⟨h, e⟩, hl⟩
    · by_cases h0 : c0.st = 0
      · have := e1 h0
        have hl2 : (backC c0 c).st = 1 := hl
        rw [this] at hl2; exact absurd hl2 (by decide)
      · rw [e2 h0] at hl ⊢; exact .inr ⟨rfl, hl⟩
    · exact .inl ⟨e, h, hl⟩
  · rintro (⟨e, h, hl⟩ | ⟨rfl, hl⟩)
    · exact ⟨.inr ⟨h, e⟩, hl⟩
    · exact ⟨.inl (by rw [e2 (by rw [hl]; decide)]), hl⟩
theorem Pres.set {R R2 : List (ByteArray × Ce)} {us : List Und} {k : ByteArray} {c : Ce} (h : Pres R us) (hr : RSet R R2 k c) : Pres R2 us := fun p hp => by
  obtain ⟨d, hd⟩ := h p hp
  by_cases e : p.1 = k
  · exact ⟨c, (hr _).2 (.inl (by rw [e]))⟩
  · exact ⟨d, (hr _).2 (.inr ⟨hd, e⟩)⟩
theorem pw_ext {α : Type} {r : α → α → Prop} (irr : ∀ a, ¬ r a a) (tr : ∀ a b c, r a b → r b c → r a c) : ∀ (l1 l2 : List α), l1.Pairwise r → l2.Pairwise r → (∀ x, x ∈ l1 ↔ x ∈ l2) → l1 = l2
  | [], [], _, _, _ => rfl
  | [], y :: l2, _, _, h => absurd ((h y).2 List.mem_cons_self) (by simp)
  | x :: l1, [], _, _, h => absurd ((h x).1 List.mem_cons_self) (by simp)
  | x :: l1, y :: l2, p1, p2, h => by
    obtain ⟨a1, b1⟩ := List.pairwise_cons.1 p1
    obtain ⟨a2, b2⟩ := List.pairwise_cons.1 p2
    have exy : x = y := by
      rcases List.mem_cons.1 ((h x).1 List.mem_cons_self) with e | e
      · exact e
      · rcases List.mem_cons.1 ((h y).2 List.mem_cons_self) with e' | e'
        · exact e'.symm
        · exact absurd (tr _ _ _ (a1 y e') (a2 x e)) (irr x)
    subst exy
    refine congrArg (x :: ·) (pw_ext irr tr l1 l2 b1 b2 fun z => ⟨fun hz => ?_, fun hz => ?_⟩)
    · rcases List.mem_cons.1 ((h z).1 (List.mem_cons_of_mem _ hz)) with e | e
      · subst e; exact absurd (a1 _ hz) (irr _)
      · exact e
    · rcases List.mem_cons.1 ((h z).2 (List.mem_cons_of_mem _ hz)) with e | e
      · subst e; exact absurd (a2 _ hz) (irr _)
      · exact e
theorem live_ext {pg pg2 : Nat → Pg} {n n2 H H2 : Nat} {ids ids2 : List Nat} {R R2 : List (ByteArray × Ce)} {ff ff2 : Prop} (h : Tl pg n H ids R ff) (h2 : Tl pg2 n2 H2 ids2 R2 ff2) (he : ∀ x, lvS R x ↔ lvS R2 x) (k : ByteArray) (m : Nat) : rangeL R k m = rangeL R2 k m := by
  unfold rangeL kvOf
  congr 2
  refine pw_ext (r := fun x y => kL x.1 y.1) (fun a => kOrd.irr _) (fun a b c => kOrd.tr _ _ _) _ _ (List.Pairwise.filter _ (List.Pairwise.filter _ h.sorted)) (List.Pairwise.filter _ (List.Pairwise.filter _ h2.sorted)) fun x => ?_
  have := he x
  unfold lvS at this
  simp only [List.mem_filter, fromR_mem, beq_iff_eq, decide_eq_true_eq]
  constructor
  · rintro ⟨⟨a, b⟩, c⟩
    have := this.1 ⟨a, by simpa using c⟩
    exact ⟨⟨this.1, b⟩, by simpa using this.2⟩
  · rintro ⟨⟨a, b⟩, c⟩
    have := this.2 ⟨a, by simpa using c⟩
    exact ⟨⟨this.1, b⟩, by simpa using this.2⟩
theorem tl_range {w : World} {B g b gs r N M n H : Nat} {und pg : Nat → Pg} {ids : List Nat} {R : List (ByteArray × Ce)} {ff : Prop} (h : SV w B g b gs r N M und pg) (hn : n ≤ N) (ht : Tl pg n H ids R ff) (k : ByteArray) (most : Int) :
    Calls Tryz.prog 34 #[.pointer (some ⟨g, 0, none⟩), .int .i64 1, .string k, .int .i64 most] w (RangeP w R k most) := by
  obtain ⟨ow, lf, kd, htv, -⟩ := ht.ex
  exact trange_any h hn htv k most
/-- The live keys, 64 at most. -/
theorem tl_all {w : World} {B g b gs r N M n H : Nat} {und pg : Nat → Pg} {ids : List Nat} {R : List (ByteArray × Ce)} {ff : Prop} (h : SV w B g b gs r N M und pg) (hn : n ≤ N) (ht : Tl pg n H ids R ff) :
    Calls Tryz.prog 34 #[.pointer (some ⟨g, 0, none⟩), .int .i64 1, .string ⟨#[]⟩, .int .i64 64] w fun e w' => ∃ v, e = .returned (.tuple #[v, .int .i64 0]) ∧ KOwn w' w.heap.size v (rangeL R ⟨#[]⟩ 64) ∧ Below w.heap.size w w' := by
  refine (tl_range h hn ht ⟨#[]⟩ 64).mono ?_
  rintro e w' ⟨⟨hx, -⟩ | ⟨-, v, he, ho⟩, hb⟩
  · exact absurd hx (by decide)
  · exact ⟨v, he, ho, hb⟩
theorem rangeL_len (R : List (ByteArray × Ce)) (k : ByteArray) (m : Nat) : (rangeL R k m).length ≤ m := by unfold rangeL; rw [List.length_take]; omega
def uL (us : List Und) : List Value := us.flatMap fun p => (udOf p).cs.toList
def kyL (us : List Und) : List Value := us.map fun p => .string p.1
theorem uL_len : ∀ us : List Und, (uL us).length = us.length * 7
  | [] => rfl
  | x :: l => by
    have := uL_len l
    unfold uL at *
    rw [List.flatMap_cons, List.length_append, this, List.length_cons, show (udOf x).cs.toList.length = 7 from rfl]
    omega
theorem uL_app (us : List Und) (p : Und) : uL (us ++ [p]) = uL us ++ (udOf p).cs.toList := by unfold uL; rw [List.flatMap_append]; simp
theorem kyL_app (us : List Und) (p : Und) : kyL (us ++ [p]) = kyL us ++ [.string p.1] := by unfold kyL; rw [List.map_append]; rfl
theorem uL_get : ∀ (l : List Und) (i : Nat) (p : Und), l[i]? = some p → ∀ j, j < 7 → (uL l)[i * 7 + j]? = (udOf p).cs.toList[j]?
  | [], i, x, h, j, hj => by simp at h
  | y :: l, 0, x, h, j, hj => by
    simp at h
    subst h
    show ((udOf y).cs.toList ++ uL l)[0 * 7 + j]? = _
    rw [Nat.zero_mul, Nat.zero_add, List.getElem?_append_left (by show j < 7; exact hj)]
  | y :: l, i + 1, x, h, j, hj => by
    have := uL_get l i x (by simpa using h) j hj
    show ((udOf y).cs.toList ++ uL l)[(i + 1) * 7 + j]? = _
    rw [List.getElem?_append_right (by show 7 ≤ (i + 1) * 7 + j; omega), show (udOf y).cs.toList.length = 7 from rfl, show (i + 1) * 7 + j - 7 = i * 7 + j by omega]
    exact this
theorem und_at {w : World} {base : Nat} {v : Value} {l : List Und} (h : w.ownsRow base 76 7 v l.length (uL l)) {i : Nat} {p : Und} (hi : l[i]? = some p) : ∃ g cap, v = .slice (some ⟨g, 0, none⟩) l.length cap ∧ w.rangeAt g (i * 7) (udOf p).cs.toList := by
  have hl : i < l.length := (List.getElem?_eq_some_iff.1 hi).1
  obtain ⟨g, cap, hv, h1, h2⟩ := World.ownsRow.form h (by omega)
  refine ⟨g, cap, hv, fun j v' hv' => ?_⟩
  have hj : j < 7 := by have := (List.getElem?_eq_some_iff.1 hv').1; rwa [show (udOf p).cs.toList.length = 7 from rfl] at this
  subst hv
  have := World.ownsRow.cells h (g := g) rfl (i * 7 + j) v' (by rw [uL_get l i p hi j hj]; exact hv')
  rw [Addr.add_lit, Nat.zero_add] at this
  exact this
/-- The keys that were touched, as the calls take them. -/
theorem keys_row {w : World} {base : Nat} {v : Value} {l : List Und} (h : w.ownsRow base 9 1 v l.length (kyL l)) (hm : l.length ≤ maxLen) : SRow w v (l.map (·.1)) := by
  have el : (l.map (·.1)).length = l.length := List.length_map _
  rcases Nat.eq_zero_or_pos l.length with h0 | h0
  · obtain ⟨a, c, rfl⟩ := ow_slice h
    exact ⟨by rw [el]; exact hm, a, c, by rw [el], .inl (List.eq_nil_of_length_eq_zero (by rw [el]; exact h0))⟩
  · obtain ⟨g, cap, hv, h1, h2⟩ := World.ownsRow.form h h0
    refine ⟨by rw [el]; exact hm, _, cap, by rw [el]; exact hv, .inr ⟨g, 0, rfl, h2, fun j hj => ?_⟩⟩
    rw [el] at hj
    subst hv
    have := World.ownsRow.cells h (g := g) rfl j (.string ((l.map (·.1)).getD j ByteArray.empty)) (by unfold kyL; simp [List.getD_eq_getElem?_getD, hj])
    rw [Addr.add_lit] at this
    exact this
theorem ow_oth {w w' : World} {base : Nat} {e : TypeId} {size : Nat} {v : Value} {n : Nat} {xs : List Value} {b r : Nat} (h : w.ownsRow base e size v n xs) (ho : Oth w w' b r) (hb : b < base) (hr : r < base) : w'.ownsRow base e size v n xs :=
  ow_same h fun k hk => ho.2 k (ow_blk h hk).2.1 (by have := (ow_blk h hk).1; omega) (by have := (ow_blk h hk).1; omega)
theorem infoTx : (Tryz.prog.info? 9).map (fun i => (i.zero, i.size, i.bytes)) = some (some (.string ⟨#[]⟩), 1, 16) := by kernel_rfl
theorem infoUd : (Tryz.prog.info? 76).map (fun i => (i.zero, i.size, i.bytes)) = some (some (.agg ud0.cs), 7, 72) := by kernel_rfl
section
variable {ops : Array Oper} {rest : List Oper} {o : Oper} {a : Act} {w : World} {Q : Exit → Act → World → Prop}
theorem load_udo (hgd : o.guard = none) (x : Operand) (ho : o.op = .load 76 x) (g off : Nat) (u : Ud) (hx : a.eval x = .pointer (some ⟨g, off, none⟩)) (hr : w.rangeAt g off u.cs.toList)
    (h : wpList Tryz.prog ops Q rest (a.put o.dst (.agg u.cs)) w) : wpList Tryz.prog ops Q (o :: rest) a w :=
  wpList_load_mid hgd 76 x ho g off hx u.cs.toList _ hr Tryz.underlying76 rfl (by rw [show u.cs.toList.length = 7 from rfl]; kernel_rfl) (by simpa using h)
end
end Go.Proofs.YtaiiimlmkigajaaGreat
namespace Go.Proofs.YtaiiimlmkigajaaGreat
open Go.RowKit Go.Maps

theorem bl_succ : ∀ (x k : List UInt8), Op.bytesLess x (k ++ [0]) = !(Op.bytesLess k x)
  | [], [] => rfl
  | [], b :: k => rfl
  | a :: x, [] => by
    show (decide (a < 0) || (a == 0 && Op.bytesLess x [])) = !true
    have h1 : Op.bytesLess x [] = false := by cases x <;> rfl
    have h2 : ¬ a < 0 := by intro h; exact absurd (UInt8.lt_iff_toNat_lt.1 h) (Nat.not_lt_zero _)
    rw [h1, decide_eq_false h2]; simp
  | a :: x, b :: k => by
    show (decide (a < b) || (a == b && Op.bytesLess x (k ++ [0]))) = !(decide (b < a) || (b == a && Op.bytesLess k x))
    rw [bl_succ x k]
    have tri : a < b ∨ a = b ∨ b < a := by
      rcases Nat.lt_trichotomy a.toNat b.toNat with h | h | h
      · exact .inl (UInt8.lt_iff_toNat_lt.2 h)
      · exact .inr (.inl (UInt8.toNat_inj.1 h))
      · exact .inr (.inr (UInt8.lt_iff_toNat_lt.2 h))
    rcases tri with h | h | h
    · have h2 : ¬ b < a := fun h3 => by have := UInt8.lt_iff_toNat_lt.1 h; have := UInt8.lt_iff_toNat_lt.1 h3; omega
      have h3 : ¬ b = a := fun e => by subst e; have := UInt8.lt_iff_toNat_lt.1 h; omega
      simp [h, h2, h3]
    · subst h
      have h2 : ¬ a < a := fun h3 => by have := UInt8.lt_iff_toNat_lt.1 h3; omega
      simp [h2]
    · have h2 : ¬ a < b := fun h3 => by have := UInt8.lt_iff_toNat_lt.1 h; have := UInt8.lt_iff_toNat_lt.1 h3; omega
      have h3 : ¬ a = b := fun e => by subst e; have := UInt8.lt_iff_toNat_lt.1 h; omega
      simp [h, h2, h3]
def kNul (k : ByteArray) : ByteArray := k ++ (⟨#[0]⟩ : ByteArray)
theorem toL_data (k : ByteArray) : k.toList = k.data.toList := by
  have h : ∀ (n i : Nat) (r : List UInt8), k.size - i = n → ByteArray.toList.loop k i r = r.reverse ++ k.data.toList.drop i := by
    intro n
    induction n with
    | zero =>
      intro i r hn
      unfold ByteArray.toList.loop
      have h1 : ¬ i < k.size := by omega
      rw [if_neg h1, List.drop_eq_nil_of_le (by show k.data.size ≤ i; have : k.data.size = k.size := rfl; omega)]
      simp
    | succ n ih =>
      intro i r hn
      unfold ByteArray.toList.loop
      have h1 : i < k.size := by omega
      have h2 : i < k.data.toList.length := h1
      rw [if_pos h1, ih (i + 1) _ (by omega), List.drop_eq_getElem_cons h2]
      simp [ByteArray.get!, getElem!_pos, h1]
  have := h k.size 0 [] (by omega)
  unfold ByteArray.toList
  simpa using this
theorem slt_nul (x k : ByteArray) : slt x (kNul k) = !(slt k x) := by
  unfold slt
  rw [show (kNul k).toList = k.toList ++ [0] from by rw [toL_data, toL_data]; unfold kNul; simp]
  exact bl_succ _ _
theorem kNul_size (k : ByteArray) : (kNul k).size = k.size + 1 := by unfold kNul; simp; rfl
theorem fromR_nul (R : List (ByteArray × Ce)) (k : ByteArray) : fromR R (kNul k) = R.filter fun x => slt k x.1 := by
  unfold fromR
  congr 1
  funext x
  rw [slt_nul]; simp
theorem fromR_nil (R : List (ByteArray × Ce)) : fromR R ⟨#[]⟩ = R := by
  unfold fromR
  refine List.filter_eq_self.2 fun x _ => ?_
  have : slt x.1 ⟨#[]⟩ = false := by unfold slt; rw [toL_data, toL_data, show (⟨#[]⟩ : ByteArray).data.toList = [] from rfl]; cases x.1.data.toList <;> rfl
  rw [this]; rfl
section
variable {pg : Nat → Pg} {n H : Nat} {ids : List Nat} {R : List (ByteArray × Ce)} {ff : Prop}
/-- The live pairs lie in order. -/
theorem Tl.kv_sorted (h : Tl pg n H ids R ff) : (kvOf R).Pairwise fun x y => slt x.1 y.1 = true := by
  unfold kvOf
  rw [List.pairwise_map]
  refine (List.Pairwise.filter _ ?_)
  refine h.sorted.imp_of_mem ?_
  intro a b ha hb hab
  show slt a.2.key b.2.key = true
  rw [(h.row ha).1, (h.row hb).1]
  exact hab
theorem Tl.kv_from (h : Tl pg n H ids R ff) (k : ByteArray) : kvOf (fromR R (kNul k)) = (kvOf R).filter fun p => slt k p.1 := by
  rw [fromR_nul]
  unfold kvOf
  rw [List.filter_map, List.filter_filter, List.filter_filter]
  congr 1
  refine List.filter_congr fun x hx => ?_
  show (decide (x.2.st = 1) && slt k x.1) = (slt k x.2.key && decide (x.2.st = 1))
  rw [(h.row hx).1, Bool.and_comm]
end
theorem filter_drop {l : List Kv} (hs : l.Pairwise fun x y => slt x.1 y.1 = true) {t : Nat} {p : Kv} (hp : l[t]? = some p) : (l.filter fun q => slt p.1 q.1) = l.drop (t + 1) := by
  induction l generalizing t with
  | nil => simp at hp
  | cons a l ih =>
    obtain ⟨h1, h2⟩ := List.pairwise_cons.1 hs
    cases t with
    | zero =>
      simp at hp; subst hp
      rw [List.filter_cons, if_neg (by simp [slt_irrefl])]
      rw [List.filter_eq_self.2 (fun x hx => h1 x hx)]
      simp
    | succ t =>
      simp at hp
      have hm := List.mem_of_getElem? hp
      rw [List.filter_cons, if_neg (by rw [slt_asymm (h1 p hm)]; simp), ih h2 hp]
      rfl
/-- Where a part ends, the next begins. -/
theorem next_part {pg : Nat → Pg} {n H : Nat} {ids : List Nat} {R : List (ByteArray × Ce)} {ff : Prop} (h : Tl pg n H ids R ff) {t : Nat} {p : Kv} (hp : (kvOf R)[t]? = some p) : kvOf (fromR R (kNul p.1)) = (kvOf R).drop (t + 1) := by
  rw [h.kv_from, filter_drop h.kv_sorted hp]
theorem kv_key {pg : Nat → Pg} {n H : Nat} {ids : List Nat} {R : List (ByteArray × Ce)} {ff : Prop} (h : Tl pg n H ids R ff) {z : Nat} (hz : ∀ x, x ∈ R → x.1.size ≤ z) {p : Kv} (hp : p ∈ kvOf R) : p.1.size ≤ z := by
  unfold kvOf at hp
  obtain ⟨x, hx, rfl⟩ := List.mem_map.1 hp
  have hm := (List.mem_filter.1 hx).1
  show x.2.key.size ≤ z
  rw [(h.row hm).1]; exact hz x hm
theorem step_small {R R2 : List (ByteArray × Ce)} {keep : List ByteArray} {k : ByteArray} {u : Ud} (h : Step16 R keep k u R2) {z : Nat} (hk : k.size ≤ z) (hz : ∀ x, x ∈ R → x.1.size ≤ z) : ∀ x, x ∈ R2 → x.1.size ≤ z := by
  rcases h with ⟨-, rfl⟩ | ⟨c0, c1, -, -, -, -, -, h2, -⟩
  · exact hz
  · intro x hx
    rcases h2 x hx with e | ⟨e, -⟩
    · rw [e]; exact hk
    · exact hz x e
end Go.Proofs.YtaiiimlmkigajaaGreat
