/- The walk of plan.rangeNeeds. -/
import Derived.Test.YtokghbppdmlfkaaDoorPlnKey
set_option linter.unusedVariables false
set_option linter.unusedSimpArgs false
namespace Go.Proofs.YtokghbppdmlfkaaDoor
open Go.RowKit

theorem tx_slice {w : World} {base : Nat} {e : TypeId} {size : Nat} {v : Value} {n : Nat} {xs : List Value} (h : w.ownsRow base e size v n xs) : ∃ a c, v = .slice a n c := by
  rcases h.2 with ⟨rfl, rfl⟩ | ⟨g, cap, cur, rfl, _⟩
  · exact ⟨none, 0, rfl⟩
  · exact ⟨_, _, rfl⟩
def rangeL (q : Opn) (ks : List ByteArray) (err : Int) : List Nd := if err ≠ 0 then aboveL q.st 3 else itemsL q.st 3 (ks.map placeB)
def RangePost (q : Opn) (ks : List ByteArray) (err : Int) (w : World) (e : Ending) (w' : World) : Prop := ∃ v, e = .returned v ∧ NdAt w' w.heap.size v (rangeL q ks err) ∧ Below w.heap.size w w'

set_option maxRecDepth 100000 in
set_option maxHeartbeats 4000000 in
theorem rangeNeeds_any (o q : Opn) (nx : ByteArray) (kv : Value) (ks : List ByteArray) (err : Int) (w : World) (hT : Tab w) (hK : TxAt w w.heap.size kv ks) (hn : ks.length ≤ 1500000) (hs : q.st = o.st) (hk : q.key = o.key) (hu : q.num = o.num) :
    Calls Tryd.prog 17 #[pkv o nx kv err, .agg q.cs] w (RangePost q ks err w) := by
  have B0 := Lib.hid ((Below.refl w.heap.size w).alloc (Nat.le_refl _) (.cells q.cs 23))
  have K0 := Lib.hid (Bk.new w 23 q.cs)
  have HT := Lib.hid hT; have HK := Lib.hid hK; have HN := Lib.hid hn
  have CR := Lib.hid (fun w hK => prange_any o nx kv ks err w hK (by have := HN.out; omega))
  have hm := meth_range (pkcs o nx kv err)
  have L1 := Lib.hid (fun (he : err ≠ 0) => show rangeL q ks err = aboveL q.st 3 from if_pos he)
  have L2 := Lib.hid (fun (he : err = 0) => show rangeL q ks err = itemsL q.st 3 (ks.map placeB) from if_neg (fun h => h he))
  have P := Lib.hid place_any
  unfold RangePost
  clear hT hK hn
  generalize rangeL q ks err = rl at *
  obtain ⟨k, st, key, val, num, at_, len⟩ := q
  dsimp only at hs hk hu L1 L2
  subst hs hk hu
  unfold Opn.cs pkv at *
  dsimp only at B0 K0
  generalize pkcs o nx kv err = pc at *
  obtain ⟨i0, hi, hz0, hz1, hz2⟩ := info_parts Tryd.info9
  go_enter Tryd.func17, Tryd.ntmps17
  go_wp2_with fail
  refine (CR.out _ ((HK.out.below B0.out (Nat.le_refl _)).mono B0.out.size)).mono ?_
  rintro e w1 ⟨v, rfl, hV, hb⟩
  have B1 := Lib.hid (below_then B0.out hb B0.out.size); have K1 := Lib.hid (K0.out.kept hb); have V := Lib.hid hV
  have x1 : w1.cell? ⟨w.heap.size, 1, none⟩ = some (.int .i64 o.st) := K1.out.cell 1
  clear hb B0 K0 CR HK hm
  by_cases he : err = 0
  case neg =>
    rw [if_neg he] at hV
    obtain ⟨va, vc, rfl, _, _⟩ := hV
    have L := Lib.hid (L1.out he)
    have ne : (err != 0) = true := by simp [he]
    clear L1 L2 he
    go_wp2_with fail
    refine (above_any o.st 3 w1 (HT.out.below B1.out)).mono ?_
    rintro e w3 ⟨v, rfl, hN, hb⟩
    have N := Lib.hid (nd_mono hN B1.out.size); have B3 := Lib.hid (below_then B1.out hb B1.out.size)
    clear hN hb
    go_wp2
    go_ret
    exact ⟨v, rfl, by rw [L.out]; exact N.out, B3.out⟩
  have L := Lib.hid (L2.out he)
  have ne : (err != 0) = false := by simp [he]
  rw [if_pos he] at hV
  have V' := Lib.hid hV
  obtain ⟨va, vc, rfl, _, _⟩ := hV
  clear L1 L2 he V
  clear x1
  go_wp2_with fail
  go_loopw [7, 33] (fun x i wr => ∃ j : Nat, j ≤ ks.length ∧ i = .int .i64 j ∧ wr.ownsRow w1.heap.size 9 1 x j (((ks.take j).map placeB).map .string) ∧ Below w.heap.size w wr ∧ Below w1.heap.size w1 wr) (fun _ i _ => ks.length - (intOf i).toNat)
  case atStart => exact ⟨0, Nat.zero_le _, rfl, World.ownsRow_nil _ _ _ _, B1.out, Below.refl _ _⟩
  case round =>
    obtain ⟨j, hj, rfl, hO, hb, hb'⟩ := hrel
    obtain ⟨xa, xc, hxe⟩ := tx_slice hO
    subst hxe
    have O0 := Lib.hid hO; have B2 := Lib.hid hb; have B2' := Lib.hid hb'
    clear hO hb hb'
    by_cases hlt : j < ks.length
    · have HLT := Lib.hid hlt
      have hj6 : j < 1500001 := by have := HN.out; omega
      obtain ⟨a', c', e1, _, hx⟩ := V'.out
      obtain ⟨b, off, rfl, hbB, hc⟩ := hx (by omega)
      obtain ⟨rfl, rfl⟩ : va = some ⟨b, off, none⟩ ∧ vc = c' := by simpa using e1
      have q0 : wr.cell? ⟨b, off + j, none⟩ = some (.string ks[j]) := by
        rw [B2'.out.cell (p := ⟨b, off + j, none⟩) hbB]; exact hc j _ (List.getElem?_eq_getElem hlt)
      have TK := Lib.hid (show ((ks.take (j + 1)).map placeB).map Value.string = ((ks.take j).map placeB).map Value.string ++ [.string (placeB ks[j])] by rw [List.take_succ_eq_append_getElem hlt, List.map_append, List.map_append]; rfl)
      generalize ks[j] = nm at *
      generalize ((ks.take j).map placeB).map Value.string = xs at *
      have O1 := Lib.hid (show (wr.alloc (.cells #[.string (placeB nm)] 9)).ownsRow w1.heap.size 9 1 (.slice xa j xc) j xs from World.ownsRow.alloc O0.out _)
      clear hx e1 hc
      go_wp2_with fail
      refine (P.out nm wr).mono ?_
      rintro e w2 ⟨rfl, rfl⟩
      generalize placeB nm = pn at *
      go_wp2_with (at_builtin; refine wpList_append_one _ rfl _ _ 24 rfl w1.heap.size 9 i0 (.string ⟨#[]⟩) 1 16 Tryd.underlying24 hi hz0 hz1 hz2 rfl (.slice xa j xc) j xs rfl O1.out ⟨wr.heap.size, 0, none⟩ 1 [.string pn] rfl rfl ?qc2 ?qc3 ?qc4 (by omega) ?qc5 ?qc6 ?_)
      case qc2 =>
        intro q y hy
        rw [Addr.add_lit, Nat.zero_add]
        refine Eq.trans ((Bk.new wr 9 #[.string pn]).cell q) ?_
        simpa using hy
      case qc3 => simp [Value.oneCell']
      case qc4 => unfold maxLen; omega
      case qc5 => omega
      case qc6 => have := B2'.out.size; simp; omega
      intro v2 w2 hown hgrow
      rw [← TK.out] at hown
      obtain ⟨ya, yc, hye⟩ := tx_slice hown
      subst hye
      have O2 := Lib.hid hown
      have B3 := Lib.hid (below_grow (B2.out.alloc B2.out.size (.cells #[.string pn] 9)) hgrow (fun k hk => Nat.le_trans B1.out.size (O1.out.lt k hk).1) (by have := B2.out.size; simp; omega))
      have hrow : ∀ k, (Value.slice xa j xc).ownBlock = some k → w1.heap.size ≤ k := by
        intro k hk
        exact (O1.out.lt k hk).1
      have B3' := Lib.hid (below_grow (B2'.out.alloc B2'.out.size (.cells #[.string pn] 9)) hgrow hrow (by have := B2'.out.size; simp; omega))
      clear hown hgrow q0 hrow
      go_wp2
      go_roundw
      case rel => exact ⟨j + 1, by have := HLT.out; omega, by go_num, O2.out, B3.out, B3'.out⟩
      case measure => have := HLT.out; simp [intOf]; omega
    · obtain rfl : j = ks.length := by omega
      have T := Lib.hid (show TxAt wr wr.heap.size (.slice xa ks.length xc) (ks.map placeB) from by
        have := O0.out
        rw [List.take_of_length_le (Nat.le_refl _)] at this
        have h2 := tx_own (l := ks.map placeB) (v := .slice xa ks.length xc) (w := wr) (B := w1.heap.size) (by rw [List.length_map]; exact this)
        exact h2)
      have x1 : wr.cell? ⟨w.heap.size, 1, none⟩ = some (.int .i64 o.st) := (K1.out.kept B2'.out).cell 1
      go_wp2_with fail
      refine (items_any o.st 3 _ (ks.map placeB) wr (HT.out.below B2.out) T.out (by rw [List.length_map]; have := HN.out; omega)).mono ?_
      rintro e w3 ⟨v, rfl, hN, hb⟩
      have N := Lib.hid (nd_mono hN B2.out.size); have B3 := Lib.hid (below_then B2.out hb B2.out.size)
      clear hN hb
      go_wp2
      go_ret
      exact ⟨v, rfl, by rw [L.out]; exact N.out, B3.out⟩
end Go.Proofs.YtokghbppdmlfkaaDoor
