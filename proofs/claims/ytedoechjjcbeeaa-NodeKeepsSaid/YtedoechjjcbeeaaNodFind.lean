/- The walks of package node: Find, Down; of the document's own: cells, Count, Find, Down. -/
import Derived.Test.YtedoechjjcbeeaaNodMem
import Derived.WalkSpells
import Derived.WalkLawsBesides
import Derived.Deep.AppendLies
set_option linter.unusedVariables false
set_option linter.unusedSimpArgs false
namespace Go.Proofs.Ytedoechjjcbeeaa
open Go.RowKit

def Sz (c : Nat → Ce) : Prop := ∀ i, i < 6 → (c i).d.size ≤ maxLen
def slt (a b : ByteArray) : Bool := Op.bytesLess a.toList b.toList
def seq (a b : ByteArray) : Bool := a.toList == b.toList
/-- The first place from which on L no longer holds. -/
def fndFrom (L : Nat → Bool) : Nat → Nat → Nat
  | 0, i => i
  | f + 1, i => if L i = false then i else fndFrom L f (i + 1)
def fnd (L : Nat → Bool) (n : Nat) : Nat := fndFrom L n 0
theorem fndFrom_spec (L : Nat → Bool) : ∀ f i, i ≤ fndFrom L f i ∧ fndFrom L f i ≤ i + f ∧ (∀ q, i ≤ q → q < fndFrom L f i → L q = true) ∧ (fndFrom L f i < i + f → L (fndFrom L f i) = false)
  | 0, i => by simp only [fndFrom]; exact ⟨by omega, by omega, fun q h1 h2 => by omega, fun h => by omega⟩
  | f + 1, i => by
    simp only [fndFrom]
    by_cases h : L i = false
    · rw [if_pos h]; exact ⟨by omega, by omega, fun q h1 h2 => by omega, fun _ => h⟩
    · rw [if_neg h]
      obtain ⟨a, b, d, e⟩ := fndFrom_spec L f (i + 1)
      refine ⟨by omega, by omega, fun q h1 h2 => ?_, fun h2 => e (by omega)⟩
      by_cases hq : q = i
      · rw [hq]; simpa using h
      · exact d q (by omega) h2
theorem fnd_le (L : Nat → Bool) (n : Nat) : fnd L n ≤ n := by have := fndFrom_spec L n 0; unfold fnd; omega
theorem fnd_below (L : Nat → Bool) (n q : Nat) (h : q < fnd L n) : L q = true := (fndFrom_spec L n 0).2.2.1 q (Nat.zero_le _) h
theorem fnd_at (L : Nat → Bool) (n : Nat) (h : fnd L n < n) : L (fnd L n) = false := (fndFrom_spec L n 0).2.2.2 (by unfold fnd at h; omega)
theorem fnd_eq (L : Nat → Bool) (n j : Nat) (hj : j ≤ n) (h1 : ∀ q, q < j → L q = true) (h2 : j < n → L j = false) : fnd L n = j := by
  rcases Nat.lt_trichotomy (fnd L n) j with h | h | h
  · have := fnd_at L n (by omega); rw [h1 _ h] at this; cases this
  · exact h
  · have := fnd_below L n j h; rw [h2 (by have := fnd_le L n; omega)] at this; cases this
def fAt (p : Pg) (key : ByteArray) : Nat := fnd (fun j => slt (p.c j).key key) (cnt p.c)
def fThere (p : Pg) (key : ByteArray) : Bool := decide (fAt p key < cnt p.c) && seq (p.c (fAt p key)).key key
theorem fAt_le (p : Pg) (key : ByteArray) : fAt p key ≤ cnt p.c := fnd_le _ _
def fDown (p : Pg) (key : ByteArray) : Nat := if fThere p key then fAt p key else fAt p key - 1
/-- What Find answers. -/
def IsFnd (p : Pg) (key : ByteArray) (j : Nat) (b : Bool) : Prop := j = fAt p key ∧ b = fThere p key
theorem isFnd_at (p : Pg) (key : ByteArray) (j : Nat) (hj : j < cnt p.c) (h1 : ∀ q, q < j → slt (p.c q).key key = true) (h2 : slt (p.c j).key key = false) : IsFnd p key j (seq (p.c j).key key) := by
  have e : fAt p key = j := fnd_eq _ _ j (by omega) h1 (fun _ => h2)
  refine ⟨e.symm, ?_⟩
  unfold fThere
  rw [e, decide_eq_true hj, Bool.true_and]
theorem isFnd_none (p : Pg) (key : ByteArray) (h1 : ∀ q, q < cnt p.c → slt (p.c q).key key = true) : IsFnd p key (cnt p.c) false := by
  have e : fAt p key = cnt p.c := fnd_eq _ _ _ (Nat.le_refl _) h1 (fun h => by omega)
  refine ⟨e.symm, ?_⟩
  unfold fThere
  rw [e, decide_eq_false (by omega), Bool.false_and]

set_option maxHeartbeats 2000000 in
theorem find_any (p : Pg) (key : ByteArray) (w : World) (hs : Sz p.c) :
    Calls Try.prog 18 #[p.v, .string key] w fun e w' => ∃ (j : Nat) (b : Bool), e = .returned (.tuple #[.int .i64 j, .bool b]) ∧ IsFnd p key j b ∧ Below w.heap.size w w' := by
  have CC := Lib.hid (fun w => count_any p w)
  have IA := Lib.hid (isFnd_at p key); have IN := Lib.hid (isFnd_none p key)
  have HS := Lib.hid hs
  have hn := cnt_le p.c
  clear hs
  generalize cnt p.c = n at *
  generalize hF : IsFnd p key = F at *
  clear hF
  unfold Pg.v
  go_enter Try.func18, Try.ntmps18
  go_wp2_with (refine load_page rfl _ rfl w.heap.size p rfl (Bk.new _ _ _) ?_)
  refine (CC.out _).mono ?_
  rintro e w2 ⟨rfl, hb2⟩
  have K2 := Lib.hid ((Bk.new w 40 p.cs).kept hb2)
  have B2 := Lib.hid (below_then ((Below.refl _ _).alloc (Nat.le_refl _) (.cells p.cs 40)) hb2 (by simp))
  clear hb2 CC
  go_wp2_with fail
  go_loopw [12] (fun x wr => ∃ j : Nat, j ≤ n ∧ x = .int .i64 j ∧ (∀ q, q < j → slt (p.c q).key key = true) ∧ Bk wr w.heap.size 40 p.cs ∧ Below w.heap.size w wr) (fun x _ => n - (intOf x).toNat)
  case atStart => exact ⟨0, by omega, rfl, (fun q hq => absurd hq (Nat.not_lt_zero _)), K2.out, B2.out⟩
  case round =>
    clear B2 K2
    obtain ⟨j, hj, rfl, hq, hk, hb⟩ := hrel
    have HQ := Lib.hid hq; have HK := Lib.hid hk; have HB := Lib.hid hb
    clear hq hk hb
    by_cases hlt : j < n
    · obtain ⟨y0, y1⟩ := pg_cell HK.out j (by omega)
      have ck := fun w => keyof_any (p.c j) w (HS.out j (by omega))
      have q1 := IA.out j hlt HQ.out
      have q2 : slt (p.c j).key key = true → ∀ q, q < j + 1 → slt (p.c q).key key = true := fun h q hq => by
        by_cases e : q = j
        · rw [e]; exact h
        · exact HQ.out q (by omega)
      have Q1 := Lib.hid q1; have Q2 := Lib.hid q2
      clear q1 q2
      unfold Ce.v at ck
      have CK := Lib.hid ck
      clear ck
      generalize (p.c j).st = st at *
      generalize (p.c j).d = d at *
      generalize (p.c j).key = K at *
      go_wp2_with fail
      refine (CK.out _).mono ?_
      rintro e w3 ⟨rfl, hb3⟩
      have K3 := Lib.hid (HK.out.kept hb3)
      have B3 := Lib.hid (below_then HB.out hb3 HB.out.size)
      clear hb3 HK HB CK y0 y1
      by_cases hl : slt K key = true
      · have hl' : Op.bytesLess K.toList key.toList = true := hl
        have R2 := Lib.hid (Q2.out hl)
        clear Q1 Q2 hl
        go_wp2
        go_roundw
        case rel => exact ⟨j + 1, by omega, by go_num, R2.out, K3.out, B3.out⟩
        case measure => simp [intOf]; omega
      · have hl0 : slt K key = false := by simpa using hl
        have hl' : Op.bytesLess K.toList key.toList = false := hl0
        have R1 := Lib.hid (Q1.out hl0)
        clear Q1 Q2 hl hl0
        go_wp2
        go_ret2
        exact ⟨j, _, rfl, R1.out, B3.out⟩
    · obtain rfl : j = n := by omega
      have R1 := Lib.hid (IN.out HQ.out)
      go_wp2
      go_ret2
      exact ⟨j, _, rfl, R1.out, HB.out⟩
end Go.Proofs.Ytedoechjjcbeeaa
