/- Layer 16: keys laid in another order: plain. -/
import Derived.Test.YtkehknokfenioaaTrBkP
set_option linter.unusedVariables false
set_option linter.unusedSimpArgs false
namespace Go.Proofs.Ytkehknokfenioaa
open Go.RowKit Go.Maps

theorem tmod_bd (x : Int) {m : Nat} (hm : 0 < m) : -(m : Int) < x.tmod m ∧ x.tmod m < m := by
  have h1 := Int.tmod_lt_of_pos x (show (0 : Int) < m by omega)
  have h2 := Int.lt_tmod_of_pos x (show (0 : Int) < m by omega)
  omega
theorem tmod_emod (x : Int) (m : Nat) : (x.tmod m) % (m : Int) = x % m := by
  rw [Int.tmod_def, Int.sub_eq_add_neg, ← Int.mul_neg, Int.add_mul_emod_self_left]
def sgA (m : Nat) (turn : Int) (i : Nat) : Int := (((i : Int) + turn.tmod m).tmod m + m).tmod m
theorem sgA_eq {m : Nat} (hm : 0 < m) (turn : Int) (i : Nat) : sgA m turn i = ((i : Int) + turn) % m := by
  unfold sgA
  have h := tmod_bd ((i : Int) + turn.tmod m) hm
  rw [Int.tmod_eq_emod_of_nonneg (by omega), Int.add_emod_right, tmod_emod, Int.add_emod, tmod_emod, ← Int.add_emod]
theorem sgA_bd {m : Nat} (hm : 0 < m) (turn : Int) (i : Nat) : 0 ≤ sgA m turn i ∧ sgA m turn i < m := by
  rw [sgA_eq hm]
  exact ⟨Int.emod_nonneg _ (by omega), Int.emod_lt_of_pos _ (by omega)⟩
/-- Where a round lays its key number i from. -/
def sg (m : Nat) (turn : Int) (q i : Nat) : Nat := if q = 1 then (if turn.tmod 2 = 0 then (sgA m turn i).toNat else (m - 1 - (sgA m turn i).toNat)) else i
theorem sg_lt {m : Nat} (hm : 0 < m) (turn : Int) (q : Nat) {i : Nat} (hi : i < m) : sg m turn q i < m := by
  have := sgA_bd hm turn i
  unfold sg
  split
  · split <;> omega
  · exact hi
theorem sg_all {m : Nat} (hm : 0 < m) (turn : Int) (q : Nat) {t : Nat} (ht : t < m) : ∃ i, i < m ∧ sg m turn q i = t := by
  have key : ∀ s, s < m → ∃ i, i < m ∧ (sgA m turn i).toNat = s := fun s hs => by
    have hnn := Int.emod_nonneg ((s : Int) - turn) (show (m : Int) ≠ 0 by omega)
    have hlt := Int.emod_lt_of_pos ((s : Int) - turn) (show (0 : Int) < m by omega)
    refine ⟨(((s : Int) - turn) % m).toNat, by omega, ?_⟩
    rw [sgA_eq hm, Int.toNat_of_nonneg hnn, Int.emod_add_emod, Int.sub_add_cancel, Int.emod_eq_of_lt (by omega) (by omega)]
    rfl
  unfold sg
  by_cases hq : q = 1
  · simp only [if_pos hq]
    by_cases h2 : turn.tmod 2 = 0
    · simp only [if_pos h2]; exact key t ht
    · simp only [if_neg h2]
      obtain ⟨i, h3, h4⟩ := key (m - 1 - t) (by omega)
      exact ⟨i, h3, by omega⟩
  · simp only [if_neg hq]; exact ⟨t, ht, rfl⟩
def eTx : ByteArray := ⟨#[]⟩
/-- What is laid of keys. -/
def LaidOf (ks : List ByteArray) (x : ByteArray × Ce) : Prop := x.1 ∈ ks ∧ keyOk x.1 ∧ x.2 = ⟨1, dat x.1 eTx⟩
def KsIn (w : World) (v : Value) (l : List ByteArray) : Prop := SRow w v l ∧ ∀ k, k ∈ l → k.size ≤ maxLen
theorem KsIn.kept {w w' : World} {v : Value} {l : List ByteArray} (h : KsIn w v l) (hb : Below w.heap.size w w') : KsIn w' v l := ⟨h.1.kept hb, h.2⟩
section
variable {w : World} {B g b gs r N M n H : Nat} {und pg : Nat → Pg} {ids : List Nat} {R : List (ByteArray × Ce)}
/-- A key is laid where only live keys are, each with no value. -/
theorem tl_lay (h : SV w B g b gs r N M und pg) (hn : n ≤ N) (ht : Tl pg n H ids R True) (hM : M + 40 < maxLen) (hv : ∀ x, x ∈ R → x.2 = ⟨1, dat x.1 eTx⟩) (hR : R.length ≤ 60) (h5 : 40 < n) (k : ByteArray) (hks : k.size ≤ maxLen) (hu : und = pg) :
    Calls Try.prog 14 #[.pointer (some ⟨g, 0, none⟩), .int .i64 1, .string k, .string eTx, .slice none 0 0] w fun e w' => ∃ (u : Ud) (er : Int), e = .returned (.tuple #[.agg u.cs, .int .i64 er]) ∧ (er = 0 ∨ er = 160 ∨ er = 1) ∧
      ∃ pg' H' ids' R', SV w' B g b gs r N (M + 40) und pg' ∧ Tl (landed er und pg') n H' ids' R' True ∧ (∀ x, x ∈ R' ↔ x ∈ R ∨ (keyOk k ∧ x = (k, ⟨1, dat k eTx⟩))) ∧ R'.length ≤ R.length + 1 ∧ w.grownBy w' (some b) := by
  subst hu
  obtain ⟨ow, lf, htv, ho⟩ := ht.ex
  refine (tput_any h hn htv hM k eTx hks (by unfold maxLen; decide) (.slice none 0 0) [] (SRow.nil w)).mono ?_
  rintro e w' (⟨hx, he, hb⟩ | ⟨-, hx, -, -⟩ | ⟨hk, -, hp⟩)
  · exact ⟨ud0, 1, he, .inr (.inr rfl), und, H, ids, R, (h.kept hb).mono (by omega), by rw [landed_ne (by decide)]; exact ht, fun x => ⟨.inl, fun h => h.resolve_right fun h => hx h.1⟩, by omega, only_below hb _⟩
  · exact absurd hx (by decide)
  rcases hp with ⟨⟨c, hc, h1⟩, he, hb⟩ | ⟨c, R', pg', h1, h2, -⟩ | ⟨hab, hg, hp⟩
  · refine ⟨ud0, 160, he, .inr (.inl rfl), und, H, ids, R, (h.kept hb).mono (by omega), by rw [landed_ne (by decide)]; exact ht, fun x => ⟨.inl, ?_⟩, by omega, only_below hb _⟩
    rintro (h | ⟨-, rfl⟩)
    · exact h
    · have := hv _ hc
      rw [show c = _ from this] at hc; exact hc
  · exact absurd (show c.st = 1 by rw [show c = _ from hv _ h1]) h2
  rcases hp with ⟨-, ⟨nn, h1, h2⟩, -⟩ | ⟨he, pg', ow', H', lf', ids', R', R0, news, hs', ht', hl, hi, hpm, hnw, hno, -⟩
  · have := (ht.room ⟨htv, ho⟩ h1 h2 (by omega)).1
    omega
  · have hlive : ∀ x, x ∈ R → x.2.st = 1 := fun x hx => by rw [hv x hx]
    have ht2 : Tl pg' n H' ids' R' True := ⟨ow', lf', ⟨ht'.vol, ht'.s1, ht'.st, ht'.kd, ht'.ix.weak (fun _ => ⟨trivial, hlive⟩)⟩, fun i hi2 hs2 => by
      by_cases hin : i ∈ news
      · exact .inr (hpm.mem_iff.2 (List.mem_append_left _ hin))
      · rw [hno i hin] at hs2
        rcases ho i hi2 hs2 with h3 | h3
        · exact .inl h3
        · exact .inr (hpm.mem_iff.2 (List.mem_append_right _ h3))⟩
    have hm : ∀ x, x ∈ R' ↔ x = (k, ⟨1, dat k eTx⟩) ∨ x ∈ R := fun x => by
      rw [hi.mem]
      constructor
      · rintro (e | e)
        · exact .inl e
        · exact .inr (hl.1 x e)
      · rintro (e | e)
        · exact .inl e
        · refine .inr (Classical.byContradiction fun h0 => ?_)
          have := (hl.2 x e h0).1
          rw [hlive x e] at this; cases this
    refine ⟨udK 1 k czero, 0, he, .inl rfl, pg', H', ids', R', hs', by rw [landed_zero]; exact ht2, fun x => ?_, ht.grow_in ht2 (fun y hy => (hm y).1 hy), hg⟩
    rw [hm x]
    constructor
    · rintro (e | e)
      · exact .inr ⟨hk, e⟩
      · exact .inl e
    · rintro (e | ⟨-, e⟩)
      · exact .inr e
      · exact .inl e
end
section
variable {H : Type} {enc : TypeId × Value → H} {w : World} {base : Nat} {held : Bool}
set_option maxRecDepth 100000 in
theorem read_ks {r : Reach} {b0 : Nat} {d : DataW H} {p : List MemPlace} {v : Value}
    (hv : Value.okWide Try.prog w r b0 28 v) (h : DataW.Trod enc Try.prog w base (fun _ => true) held 28 v d p) : ∃ l : List ByteArray, KsIn w v l := by
  obtain ⟨l, h1, h2⟩ := read_keys hv h
  exact ⟨l, h1, h2⟩
end
end Go.Proofs.Ytkehknokfenioaa
