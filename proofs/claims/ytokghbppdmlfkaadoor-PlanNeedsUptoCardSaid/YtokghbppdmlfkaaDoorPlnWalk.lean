/- The walks of package plan: above, items, place; base.Item. -/
import Derived.Test.YtokghbppdmlfkaaDoorPlnMod
import Derived.Test.YtokghbppdmlfkaaDoorOctNum
import Derived.Test.YtokghbppdmlfkaaDoorApp1
import Derived.Test.YtokghbppdmlfkaaDoorOctPlain2
import Derived.OwnWalk
set_option linter.unusedVariables false
set_option linter.unusedSimpArgs false
namespace Go.Proofs.YtokghbppdmlfkaaDoor
open Go.RowKit

/-- A lock that is wanted. -/
structure Nd where
  st : Int
  it : ByteArray
  m : Int
def Nd.cs (d : Nd) : List Value := [.int .i64 d.st, .string d.it, .int .i64 d.m]
def ndL : List Nd → List Value
  | [] => []
  | d :: l => d.cs ++ ndL l
theorem ndL_append : ∀ (a b : List Nd), ndL (a ++ b) = ndL a ++ ndL b
  | [], b => rfl
  | d :: a, b => by show d.cs ++ ndL (a ++ b) = (d.cs ++ ndL a) ++ ndL b; rw [ndL_append a b, List.append_assoc]
/-- The slice v holds these needs, in a row of its own. -/
def NdAt (w : World) (B : Nat) (v : Value) (l : List Nd) : Prop := w.ownsRow B 40 3 v l.length (ndL l)
/-- Texts, one a cell. -/
def TxAt (w : World) (B : Nat) (v : Value) (l : List ByteArray) : Prop :=
  ∃ a c, v = .slice a l.length c ∧ (a = none → l.length = 0 ∧ c = 0) ∧ (0 < l.length → ∃ b off, a = some (⟨b, off, none⟩ : Addr) ∧ b < B ∧ ∀ i s, l[i]? = some s → w.cell? ⟨b, off + i, none⟩ = some (.string s))
theorem TxAt.below {w w' : World} {B B' : Nat} {v : Value} {l : List ByteArray} (h : TxAt w B v l) (hb : Below B' w w') (hB : B ≤ B') : TxAt w' B v l := by
  obtain ⟨a, c, e, hz, h⟩ := h
  refine ⟨a, c, e, hz, fun h0 => ?_⟩
  obtain ⟨b, off, e1, hlt, hc⟩ := h h0
  exact ⟨b, off, e1, hlt, fun i s hs => by rw [hb.cell (p := ⟨b, off + i, none⟩) (by show b < B'; omega)]; exact hc i s hs⟩
theorem TxAt.mono {w : World} {B B' : Nat} {v : Value} {l : List ByteArray} (h : TxAt w B v l) (hB : B ≤ B') : TxAt w B' v l := by
  obtain ⟨a, c, e, hz, h⟩ := h
  refine ⟨a, c, e, hz, fun h0 => ?_⟩
  obtain ⟨b, off, e1, hlt, hc⟩ := h h0
  exact ⟨b, off, e1, by omega, hc⟩
def nd0 (m : Int) : Nd := ⟨0, ⟨#[]⟩, m⟩
def aboveL (store mode : Int) : List Nd := [nd0 (Md.abv mode), ⟨store, ⟨#[]⟩, Md.abv mode⟩]
def itemsL (store mode : Int) (names : List ByteArray) : List Nd := aboveL store mode ++ names.map fun s => ⟨store, s, mode⟩
theorem Tryd.info40 : (Tryd.prog.info? 40).map (fun i => (i.zero, i.size, i.bytes)) = some (some (.agg #[.int .i64 0, .string ⟨#[]⟩, .int .i64 0]), 3, 32) := by kernel_rfl
theorem Tryd.info9 : (Tryd.prog.info? 9).map (fun i => (i.zero, i.size, i.bytes)) = some (some (.string ⟨#[]⟩), 1, 16) := by kernel_rfl

theorem nd_made (w : World) (cs : Array Value) (l : List Nd) (h : cs.toList = ndL l) (hl : cs.size = l.length * 3) (hm : l.length ≤ maxLen) : NdAt (w.alloc (.cells cs 40)) w.heap.size (.slice (some ⟨w.heap.size, 0, none⟩) l.length l.length) l := by
  refine ⟨by rw [← h]; simpa using hl, .inr ⟨w.heap.size, l.length, cs, rfl, Nat.le_refl _, heap_alloc_new w _, Nat.le_refl _, hm, hl, ?_⟩⟩
  rw [h, List.take_of_length_le (by rw [← h]; simp; omega)]

set_option maxHeartbeats 1000000 in
theorem above_any (store mode : Int) (w : World) (hT : Tab w) :
    Calls Tryd.prog 13 #[.int .i64 store, .int .i64 mode] w fun e w' => ∃ v, e = .returned v ∧ NdAt w' w.heap.size v (aboveL store mode) ∧ Below w.heap.size w w' := by
  have C := Lib.hid (abv_any mode w hT)
  have AL := Lib.hid (show aboveL store mode = [⟨0, ⟨#[]⟩, Md.abv mode⟩, ⟨store, ⟨#[]⟩, Md.abv mode⟩] from rfl)
  clear hT
  generalize Md.abv mode = m at *
  generalize aboveL store mode = al at *
  go_enter Tryd.func13, Tryd.ntmps13
  go_wp2_with fail
  refine C.out.mono ?_
  rintro e w1 ⟨rfl, hb⟩
  have N := Lib.hid (nd_made w1 #[.int .i64 0, .string ⟨#[]⟩, .int .i64 m, .int .i64 store, .string ⟨#[]⟩, .int .i64 m] [⟨0, ⟨#[]⟩, m⟩, ⟨store, ⟨#[]⟩, m⟩] rfl rfl (by simp [maxLen]))
  have B := Lib.hid (hb.alloc hb.size (.cells #[.int .i64 0, .string ⟨#[]⟩, .int .i64 m, .int .i64 store, .string ⟨#[]⟩, .int .i64 m] 40))
  have SZ := Lib.hid hb.size
  clear hb
  go_wp2
  go_ret
  exact ⟨_, rfl, by rw [AL.out]; exact ⟨N.out.1, by rcases N.out.2 with h | ⟨g, cap, cur, h1, h2, h3⟩; exact .inl h; exact .inr ⟨g, cap, cur, h1, Nat.le_trans SZ.out h2, h3⟩⟩, B.out⟩

theorem below_grow {B : Nat} {w a b : World} (h : Below B w a) {row : Option Nat} (hg : a.grownBy b row) (hr : ∀ k, row = some k → B ≤ k) (hB : B ≤ a.heap.size) : Below B w b :=
  h.grown hg hB hr
set_option maxHeartbeats 2000000 in
theorem items_any (store mode : Int) (v : Value) (names : List ByteArray) (w : World) (hT : Tab w) (hv : TxAt w w.heap.size v names) (hn : names.length ≤ 2000000) :
    Calls Tryd.prog 14 #[.int .i64 store, .int .i64 mode, v] w fun e w' => ∃ v, e = .returned v ∧ NdAt w' w.heap.size v (itemsL store mode names) ∧ Below w.heap.size w w' := by
  have C := Lib.hid (above_any store mode w hT)
  have HV := Lib.hid hv
  obtain ⟨a, c, rfl, _, _⟩ := hv
  obtain ⟨i0, hi, hz0, hz1, hz2⟩ := info_parts Tryd.info40
  clear hT
  go_enter Tryd.func14, Tryd.ntmps14
  go_wp2_with fail
  refine C.out.mono ?_
  rintro e w1 ⟨v1, rfl, hN, hb⟩
  have N1 := Lib.hid hN; have B1 := Lib.hid hb
  clear hN hb C
  go_wp2_with fail
  go_loopw [7, 15] (fun x i wr => ∃ (j : Nat) (v' : Value), j ≤ names.length ∧ i = .int .i64 j ∧ x = v' ∧ NdAt wr w.heap.size v' (aboveL store mode ++ (names.take j).map fun s => ⟨store, s, mode⟩) ∧ Below w.heap.size w wr) (fun _ i _ => names.length - (intOf i).toNat)
  case atStart => exact ⟨0, v1, Nat.zero_le _, rfl, rfl, by simpa using N1.out, B1.out⟩
  case round =>
    clear N1 B1
    obtain ⟨j, v', hj, rfl, hxv, hN, hb⟩ := hrel
    obtain rfl : v' = _ := hxv.symm
    have N0 := Lib.hid hN; have B0 := Lib.hid hb
    clear hN hb
    by_cases hlt : j < names.length
    · have HLT := Lib.hid hlt
      have hj6 : j < 2000001 := by omega
      obtain ⟨a', c', e1, _, hx⟩ := HV.out
      obtain ⟨b, off, rfl, hbB, hc⟩ := hx (by omega)
      obtain ⟨rfl, rfl⟩ : a = some ⟨b, off, none⟩ ∧ c = c' := by simpa using e1
      have q0 : wr.cell? ⟨b, off + j, none⟩ = some (.string names[j]) := by
        rw [B0.out.cell (p := ⟨b, off + j, none⟩) hbB]; exact hc j _ (List.getElem?_eq_getElem hlt)
      have TK := Lib.hid (show (names.take (j + 1)).map (fun s => (⟨store, s, mode⟩ : Nd)) = (names.take j).map (fun s => (⟨store, s, mode⟩ : Nd)) ++ [⟨store, names[j], mode⟩] by rw [List.take_succ_eq_append_getElem hlt, List.map_append]; rfl)
      have HNN := Lib.hid hn
      generalize names[j] = nm at *
      have LN := Lib.hid (show (aboveL store mode ++ (names.take j).map fun s => (⟨store, s, mode⟩ : Nd)).length = j + 2 by simp [aboveL]; omega)
      clear hx e1 hc hn
      generalize hl : (aboveL store mode ++ (names.take j).map fun s => (⟨store, s, mode⟩ : Nd)) = l at *
      have HLQ := Lib.hid hl
      clear hl
      have O1 := Lib.hid (show (wr.alloc (.cells #[.int .i64 store, .string nm, .int .i64 mode] 40)).ownsRow w.heap.size 40 3 v' l.length (ndL l) from World.ownsRow.alloc N0.out _)
      go_wp2_with (at_builtin; refine wpList_append_one _ rfl _ _ 28 rfl w.heap.size 40 i0 (.agg #[.int .i64 0, .string ⟨#[]⟩, .int .i64 0]) 3 32 Tryd.underlying28 hi hz0 hz1 hz2 rfl v' l.length (ndL l) rfl O1.out ⟨wr.heap.size, 0, none⟩ 1 [.int .i64 store, .string nm, .int .i64 mode] rfl rfl ?qc2 ?qc3 ?qc4 (by omega) ?qc5 ?qc6 ?_)
      case qc3 => simp [Value.oneCell']
      case qc4 => have := LN.out; unfold maxLen; omega
      case qc5 => have := LN.out; omega
      case qc6 => have := B0.out.size; simp; omega
      intro v2 w2 hown hgrow
      have N2 := Lib.hid (show NdAt w2 w.heap.size v2 (l ++ [⟨store, nm, mode⟩]) from by
        unfold NdAt
        rw [ndL_append, List.length_append]
        exact hown)
      have B2 := Lib.hid (below_grow (B0.out.alloc B0.out.size (.cells #[.int .i64 store, .string nm, .int .i64 mode] 40)) hgrow (fun k hk => (O1.out.lt k hk).1) (by have := B0.out.size; simp; omega))
      clear hown hgrow q0
      go_wp2
      go_roundw
      case rel => exact ⟨j + 1, v2, by have := HLT.out; omega, by go_num, rfl, by rw [TK.out, ← List.append_assoc, HLQ.out]; exact N2.out, B2.out⟩
      case measure => have := HLT.out; simp [intOf]; omega
    · obtain rfl : j = names.length := by omega
      have NN := Lib.hid (show NdAt wr w.heap.size v' (itemsL store mode names) from by have := N0.out; rw [List.take_of_length_le (Nat.le_refl _)] at this; exact this)
      go_wp2
      go_ret
      exact ⟨_, rfl, NN.out, B0.out⟩

def endB : ByteArray := ⟨#[255, 255, 255, 255, 255, 255, 255, 255, 255]⟩
def placeB (s : ByteArray) : ByteArray := if s = ⟨#[]⟩ then endB else s
theorem place_any (s : ByteArray) (w : World) :
    Calls Tryd.prog 23 #[.string s] w fun e w' => e = .returned (.string (placeB s)) ∧ w = w' := by
  by_cases h : s = ⟨#[]⟩
  · subst h
    rw [show placeB ⟨#[]⟩ = endB from if_pos rfl]
    unfold endB
    go_enter Tryd.func23, Tryd.ntmps23
    go_wp2
    go_ret
    exact ⟨rfl, rfl⟩
  · rw [show placeB s = s from if_neg h]
    have hne2 : s.toList ≠ [] := by
      intro e
      have h0 : (⟨#[]⟩ : ByteArray).toList = [] := by rw [ByteArray.toList_eq]
      have := str_ne h
      rw [e, h0] at this
      simp at this
    have hne : s.toList.isEmpty = false := by simpa using hne2
    have hne3 : (s.toList == []) = false := by simpa using hne2
    go_enter Tryd.func23, Tryd.ntmps23
    go_wp2
    go_ret
    exact ⟨rfl, rfl⟩
def itemB (n : Int) : ByteArray := Oct.str ((max n 0) % 4294967296).toNat 4
set_option maxHeartbeats 1000000 in
theorem item_any (n : Int) (w : World) (h0 : -9223372036854775808 ≤ n) (h1 : n ≤ 9223372036854775807) :
    Calls Tryd.prog 15 #[.int .i64 n] w fun e w' => e = .returned (.string (itemB n)) ∧ Below w.heap.size w w' := by
  have IB := Lib.hid (show itemB n = Oct.str ((max n 0) % 4294967296).toNat 4 from rfl)
  have hm : 0 ≤ (max n 0) % 4294967296 ∧ (max n 0) % 4294967296 < 4294967296 := ⟨Int.emod_nonneg _ (by omega), Int.emod_lt_of_pos _ (by omega)⟩
  have C := Lib.hid (fun w => num_fits' ((max n 0) % 4294967296) 4 w hm.1 (by omega) (by omega) (by omega) (Nat.div_eq_of_lt (by have := hm.2; show ((max n 0) % 4294967296).toNat < 256 ^ (4 : Int).toNat; simp; omega)))
  have hmx : 0 ≤ max n 0 ∧ max n 0 ≤ 9223372036854775807 := by omega
  by_cases hn : 0 ≤ n
  · rw [show max n 0 = n by omega] at *
    have hnn : ¬ n < 0 := by omega
    go_enter Tryd.func15, Tryd.ntmps15
    go_wp2_with fail
    all_goals
      first
        | omega
        | skip
    refine (C.out _).mono ?_
    rintro e w1 ⟨rfl, hb⟩
    have B := Lib.hid hb
    clear hb
    go_wp2
    go_ret
    exact ⟨by rw [IB.out]; rfl, B.out⟩
  · rw [show max n 0 = 0 by omega] at *
    have hnn : n < 0 := by omega
    go_enter Tryd.func15, Tryd.ntmps15
    go_wp2_with fail
    all_goals
      first
        | omega
        | skip
    refine (C.out _).mono ?_
    rintro e w1 ⟨rfl, hb⟩
    have B := Lib.hid hb
    clear hb
    go_wp2
    go_ret
    exact ⟨by rw [IB.out]; rfl, B.out⟩
end Go.Proofs.YtokghbppdmlfkaaDoor
