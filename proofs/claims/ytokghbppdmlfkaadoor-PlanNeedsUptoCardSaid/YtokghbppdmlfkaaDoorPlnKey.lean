/- The walk of plan.keyNeeds. -/
import Derived.Test.YtokghbppdmlfkaaDoorPlnPeek
set_option linter.unusedVariables false
set_option linter.unusedSimpArgs false
namespace Go.Proofs.YtokghbppdmlfkaaDoor
open Go.RowKit

def KeyPost (q : Opn) (nx : ByteArray) (err : Int) (w : World) (e : Ending) (w' : World) : Prop := ∃ v, e = .returned v ∧ NdAt w' w.heap.size v (keyL q nx err) ∧ Below w.heap.size w w'

set_option maxRecDepth 100000 in
set_option maxHeartbeats 4000000 in
theorem keyNeeds_any (o q : Opn) (nx : ByteArray) (kv : Value) (err : Int) (w : World) (hT : Tab w) (hs : q.st = o.st) (hk : q.key = o.key) :
    Calls Tryd.prog 16 #[pkv o nx kv err, .agg q.cs] w (KeyPost q nx err w) := by
  have B0 := Lib.hid ((Below.refl w.heap.size w).alloc (Nat.le_refl _) (.cells q.cs 23))
  have K0 := Lib.hid (Bk.new w 23 q.cs)
  have CN := Lib.hid (fun w => next_any o q nx kv err w hs hk)
  have HT := Lib.hid hT
  have L1 := Lib.hid (fun (m : Int) (hm : (if q.k = 14 then (3 : Int) else 6) = m) (he : err ≠ 0) => show keyL q nx err = aboveL q.st m by unfold keyL; rw [hm]; simp [he])
  have L2 := Lib.hid (fun (m : Int) (hm : (if q.k = 14 then (3 : Int) else 6) = m) (he : err = 0) (h13 : q.k = 13) (hne : placeB nx ≠ q.key) => show keyL q nx err = itemsL q.st m [q.key, placeB nx] by unfold keyL; rw [hm]; simp [he, h13, hne])
  have L3 := Lib.hid (fun (he : err = 0) (h13 : q.k ≠ 13) (hne : placeB nx ≠ q.key) => show keyL q nx err = itemsL q.st 3 [placeB nx] by unfold keyL; simp [he, h13, hne])
  have L4 := Lib.hid (fun (m : Int) (hm : (if q.k = 14 then (3 : Int) else 6) = m) (he : err = 0) (heq : placeB nx = q.key) => show keyL q nx err = itemsL q.st m [placeB nx] by unfold keyL; rw [hm]; simp [he, heq])
  clear hs hk hT
  unfold KeyPost
  generalize keyL q nx err = kl at *
  obtain ⟨k, st, key, val, num, at_, len⟩ := q
  dsimp only at L1 L2 L3 L4
  unfold Opn.cs at *
  dsimp only at B0 K0 CN

  by_cases h14 : k = 14
  case pos =>
    subst h14
    have HM := Lib.hid (show (if (14 : Int) = 14 then (3 : Int) else 6) = 3 from rfl)
    by_cases he : err = 0
    case neg =>
      have L := Lib.hid (L1.out 3 HM.out he)
      have ne : (err != 0) = true := by simp [he]
      have cn := CN.out
      rw [if_neg he] at cn
      have CN' := Lib.hid cn
      clear L1 L2 L3 L4 he cn CN
      go_enter Tryd.func16, Tryd.ntmps16
      go_wp2_with fail
      refine (CN'.out _).mono ?_
      rintro e w1 ⟨rfl, hb⟩
      have B1 := Lib.hid (below_then B0.out hb B0.out.size); have K1 := Lib.hid (K0.out.kept hb)
      have x0 : w1.cell? ⟨w.heap.size, 0, none⟩ = some (.int .i64 14) := K1.out.cell 0; have x1 : w1.cell? ⟨w.heap.size, 1, none⟩ = some (.int .i64 st) := K1.out.cell 1; have x2 : w1.cell? ⟨w.heap.size, 2, none⟩ = some (.string key) := K1.out.cell 2
      clear hb K1 K0 B0 CN'
      go_wp2_with fail
      refine (above_any st 3 w1 (HT.out.below B1.out)).mono ?_
      rintro e w3 ⟨v, rfl, hN, hb⟩
      have N := Lib.hid (nd_mono hN B1.out.size); have B3 := Lib.hid (below_then B1.out hb B1.out.size)
      clear hN hb
      go_wp2
      go_ret
      exact ⟨v, rfl, by rw [L.out]; exact N.out, B3.out⟩
    subst he
    have cn := CN.out
    rw [if_pos rfl] at cn
    generalize placeB nx = A at *
    have CN' := Lib.hid cn
    clear cn CN
    by_cases heq : A = key
    case pos =>
      subst heq
      have L := Lib.hid (L4.out 3 HM.out rfl rfl)
      have hqq : (A.toList == A.toList) = true := by simp
      have hqn : (A.toList != A.toList) = false := by simp
      clear L1 L2 L3 L4
      go_enter Tryd.func16, Tryd.ntmps16
      go_wp2_with fail
      refine (CN'.out _).mono ?_
      rintro e w1 ⟨rfl, hb⟩
      have B1 := Lib.hid (below_then B0.out hb B0.out.size); have K1 := Lib.hid (K0.out.kept hb)
      have x0 : w1.cell? ⟨w.heap.size, 0, none⟩ = some (.int .i64 14) := K1.out.cell 0; have x1 : w1.cell? ⟨w.heap.size, 1, none⟩ = some (.int .i64 st) := K1.out.cell 1; have x2 : w1.cell? ⟨w.heap.size, 2, none⟩ = some (.string A) := K1.out.cell 2
      clear hb K1 K0 B0 CN'
      have TX := Lib.hid (tx_new w1 #[.string A] [A] rfl)
      have B2 := Lib.hid (B1.out.alloc B1.out.size (.cells #[.string A] 9))
      go_wp2_with fail
      generalize (w1.alloc (.cells #[.string A] 9)) = w2 at *
      refine (items_any st 3 _ [A] w2 (HT.out.below B2.out) TX.out (by simp)).mono ?_
      rintro e w3 ⟨v, rfl, hN, hb⟩
      have N := Lib.hid (nd_mono hN B2.out.size); have B3 := Lib.hid (below_then B2.out hb B2.out.size)
      clear hN hb
      go_wp2
      go_ret
      exact ⟨v, rfl, by rw [L.out]; exact N.out, B3.out⟩
    have L := Lib.hid (L3.out rfl (by decide) heq)
    have hqq : (A.toList == key.toList) = false := str_ne heq
    have hqn : (A.toList != key.toList) = true := by simp [bne, hqq]
    clear L1 L2 L3 L4 heq
    go_enter Tryd.func16, Tryd.ntmps16
    go_wp2_with fail
    refine (CN'.out _).mono ?_
    rintro e w1 ⟨rfl, hb⟩
    have B1 := Lib.hid (below_then B0.out hb B0.out.size); have K1 := Lib.hid (K0.out.kept hb)
    have x0 : w1.cell? ⟨w.heap.size, 0, none⟩ = some (.int .i64 14) := K1.out.cell 0; have x1 : w1.cell? ⟨w.heap.size, 1, none⟩ = some (.int .i64 st) := K1.out.cell 1; have x2 : w1.cell? ⟨w.heap.size, 2, none⟩ = some (.string key) := K1.out.cell 2
    clear hb K1 K0 B0 CN'
    have TX := Lib.hid (tx_new w1 #[.string A] [A] rfl)
    have B2 := Lib.hid (B1.out.alloc B1.out.size (.cells #[.string A] 9))
    go_wp2_with fail
    generalize (w1.alloc (.cells #[.string A] 9)) = w2 at *
    refine (items_any st 3 _ [A] w2 (HT.out.below B2.out) TX.out (by simp)).mono ?_
    rintro e w3 ⟨v, rfl, hN, hb⟩
    have N := Lib.hid (nd_mono hN B2.out.size); have B3 := Lib.hid (below_then B2.out hb B2.out.size)
    clear hN hb
    go_wp2
    go_ret
    exact ⟨v, rfl, by rw [L.out]; exact N.out, B3.out⟩
  by_cases h13 : k = 13
  case pos =>
    subst h13
    have HM := Lib.hid (show (if (13 : Int) = 14 then (3 : Int) else 6) = 6 from rfl)
    clear h14
    by_cases he : err = 0
    case neg =>
      have L := Lib.hid (L1.out 6 HM.out he)
      have ne : (err != 0) = true := by simp [he]
      have cn := CN.out
      rw [if_neg he] at cn
      have CN' := Lib.hid cn
      clear L1 L2 L3 L4 he cn CN
      go_enter Tryd.func16, Tryd.ntmps16
      go_wp2_with fail
      refine (CN'.out _).mono ?_
      rintro e w1 ⟨rfl, hb⟩
      have B1 := Lib.hid (below_then B0.out hb B0.out.size); have K1 := Lib.hid (K0.out.kept hb)
      have x0 : w1.cell? ⟨w.heap.size, 0, none⟩ = some (.int .i64 13) := K1.out.cell 0; have x1 : w1.cell? ⟨w.heap.size, 1, none⟩ = some (.int .i64 st) := K1.out.cell 1; have x2 : w1.cell? ⟨w.heap.size, 2, none⟩ = some (.string key) := K1.out.cell 2
      clear hb K1 K0 B0 CN'
      go_wp2_with fail
      refine (above_any st 6 w1 (HT.out.below B1.out)).mono ?_
      rintro e w3 ⟨v, rfl, hN, hb⟩
      have N := Lib.hid (nd_mono hN B1.out.size); have B3 := Lib.hid (below_then B1.out hb B1.out.size)
      clear hN hb
      go_wp2
      go_ret
      exact ⟨v, rfl, by rw [L.out]; exact N.out, B3.out⟩
    subst he
    have cn := CN.out
    rw [if_pos rfl] at cn
    generalize placeB nx = A at *
    have CN' := Lib.hid cn
    clear cn CN
    by_cases heq : A = key
    case pos =>
      subst heq
      have L := Lib.hid (L4.out 6 HM.out rfl rfl)
      have hqq : (A.toList == A.toList) = true := by simp
      have hqn : (A.toList != A.toList) = false := by simp
      clear L1 L2 L3 L4
      go_enter Tryd.func16, Tryd.ntmps16
      go_wp2_with fail
      refine (CN'.out _).mono ?_
      rintro e w1 ⟨rfl, hb⟩
      have B1 := Lib.hid (below_then B0.out hb B0.out.size); have K1 := Lib.hid (K0.out.kept hb)
      have x0 : w1.cell? ⟨w.heap.size, 0, none⟩ = some (.int .i64 13) := K1.out.cell 0; have x1 : w1.cell? ⟨w.heap.size, 1, none⟩ = some (.int .i64 st) := K1.out.cell 1; have x2 : w1.cell? ⟨w.heap.size, 2, none⟩ = some (.string A) := K1.out.cell 2
      clear hb K1 K0 B0 CN'
      have TX := Lib.hid (tx_new w1 #[.string A] [A] rfl)
      have B2 := Lib.hid (B1.out.alloc B1.out.size (.cells #[.string A] 9))
      go_wp2_with fail
      generalize (w1.alloc (.cells #[.string A] 9)) = w2 at *
      refine (items_any st 6 _ [A] w2 (HT.out.below B2.out) TX.out (by simp)).mono ?_
      rintro e w3 ⟨v, rfl, hN, hb⟩
      have N := Lib.hid (nd_mono hN B2.out.size); have B3 := Lib.hid (below_then B2.out hb B2.out.size)
      clear hN hb
      go_wp2
      go_ret
      exact ⟨v, rfl, by rw [L.out]; exact N.out, B3.out⟩
    have L := Lib.hid (L2.out 6 HM.out rfl rfl heq)
    have hqq : (A.toList == key.toList) = false := str_ne heq
    have hqn : (A.toList != key.toList) = true := by simp [bne, hqq]
    clear L1 L2 L3 L4 heq
    go_enter Tryd.func16, Tryd.ntmps16
    go_wp2_with fail
    refine (CN'.out _).mono ?_
    rintro e w1 ⟨rfl, hb⟩
    have B1 := Lib.hid (below_then B0.out hb B0.out.size); have K1 := Lib.hid (K0.out.kept hb)
    have x0 : w1.cell? ⟨w.heap.size, 0, none⟩ = some (.int .i64 13) := K1.out.cell 0; have x1 : w1.cell? ⟨w.heap.size, 1, none⟩ = some (.int .i64 st) := K1.out.cell 1; have x2 : w1.cell? ⟨w.heap.size, 2, none⟩ = some (.string key) := K1.out.cell 2
    clear hb K1 K0 B0 CN'
    have TX := Lib.hid (tx_new w1 #[.string key, .string A] [key, A] rfl)
    have B2 := Lib.hid (B1.out.alloc B1.out.size (.cells #[.string key, .string A] 9))
    go_wp2_with fail
    generalize (w1.alloc (.cells #[.string key, .string A] 9)) = w2 at *
    refine (items_any st 6 _ [key, A] w2 (HT.out.below B2.out) TX.out (by simp)).mono ?_
    rintro e w3 ⟨v, rfl, hN, hb⟩
    have N := Lib.hid (nd_mono hN B2.out.size); have B3 := Lib.hid (below_then B2.out hb B2.out.size)
    clear hN hb
    go_wp2
    go_ret
    exact ⟨v, rfl, by rw [L.out]; exact N.out, B3.out⟩
  case neg =>
    have HM := Lib.hid (show (if k = 14 then (3 : Int) else 6) = 6 from if_neg h14)
    have H13 := Lib.hid h13
    have e14 : (k == 14) = false := by simp [h14]
    have e13 : (k == 13) = false := by simp [h13]
    have f13 : (k != 13) = true := by simp [h13]
    clear h14 h13
    by_cases he : err = 0
    case neg =>
      have L := Lib.hid (L1.out 6 HM.out he)
      have ne : (err != 0) = true := by simp [he]
      have cn := CN.out
      rw [if_neg he] at cn
      have CN' := Lib.hid cn
      clear L1 L2 L3 L4 he cn CN
      go_enter Tryd.func16, Tryd.ntmps16
      go_wp2_with fail
      refine (CN'.out _).mono ?_
      rintro e w1 ⟨rfl, hb⟩
      have B1 := Lib.hid (below_then B0.out hb B0.out.size); have K1 := Lib.hid (K0.out.kept hb)
      have x0 : w1.cell? ⟨w.heap.size, 0, none⟩ = some (.int .i64 k) := K1.out.cell 0; have x1 : w1.cell? ⟨w.heap.size, 1, none⟩ = some (.int .i64 st) := K1.out.cell 1; have x2 : w1.cell? ⟨w.heap.size, 2, none⟩ = some (.string key) := K1.out.cell 2
      clear hb K1 K0 B0 CN'
      go_wp2_with fail
      refine (above_any st 6 w1 (HT.out.below B1.out)).mono ?_
      rintro e w3 ⟨v, rfl, hN, hb⟩
      have N := Lib.hid (nd_mono hN B1.out.size); have B3 := Lib.hid (below_then B1.out hb B1.out.size)
      clear hN hb
      go_wp2
      go_ret
      exact ⟨v, rfl, by rw [L.out]; exact N.out, B3.out⟩
    subst he
    have cn := CN.out
    rw [if_pos rfl] at cn
    generalize placeB nx = A at *
    have CN' := Lib.hid cn
    clear cn CN
    by_cases heq : A = key
    case pos =>
      subst heq
      have L := Lib.hid (L4.out 6 HM.out rfl rfl)
      have hqq : (A.toList == A.toList) = true := by simp
      have hqn : (A.toList != A.toList) = false := by simp
      clear L1 L2 L3 L4
      go_enter Tryd.func16, Tryd.ntmps16
      go_wp2_with fail
      refine (CN'.out _).mono ?_
      rintro e w1 ⟨rfl, hb⟩
      have B1 := Lib.hid (below_then B0.out hb B0.out.size); have K1 := Lib.hid (K0.out.kept hb)
      have x0 : w1.cell? ⟨w.heap.size, 0, none⟩ = some (.int .i64 k) := K1.out.cell 0; have x1 : w1.cell? ⟨w.heap.size, 1, none⟩ = some (.int .i64 st) := K1.out.cell 1; have x2 : w1.cell? ⟨w.heap.size, 2, none⟩ = some (.string A) := K1.out.cell 2
      clear hb K1 K0 B0 CN'
      have TX := Lib.hid (tx_new w1 #[.string A] [A] rfl)
      have B2 := Lib.hid (B1.out.alloc B1.out.size (.cells #[.string A] 9))
      go_wp2_with fail
      generalize (w1.alloc (.cells #[.string A] 9)) = w2 at *
      refine (items_any st 6 _ [A] w2 (HT.out.below B2.out) TX.out (by simp)).mono ?_
      rintro e w3 ⟨v, rfl, hN, hb⟩
      have N := Lib.hid (nd_mono hN B2.out.size); have B3 := Lib.hid (below_then B2.out hb B2.out.size)
      clear hN hb
      go_wp2
      go_ret
      exact ⟨v, rfl, by rw [L.out]; exact N.out, B3.out⟩
    have L := Lib.hid (L3.out rfl H13.out heq)
    have hqq : (A.toList == key.toList) = false := str_ne heq
    have hqn : (A.toList != key.toList) = true := by simp [bne, hqq]
    clear L1 L2 L3 L4 heq
    go_enter Tryd.func16, Tryd.ntmps16
    go_wp2_with fail
    refine (CN'.out _).mono ?_
    rintro e w1 ⟨rfl, hb⟩
    have B1 := Lib.hid (below_then B0.out hb B0.out.size); have K1 := Lib.hid (K0.out.kept hb)
    have x0 : w1.cell? ⟨w.heap.size, 0, none⟩ = some (.int .i64 k) := K1.out.cell 0; have x1 : w1.cell? ⟨w.heap.size, 1, none⟩ = some (.int .i64 st) := K1.out.cell 1; have x2 : w1.cell? ⟨w.heap.size, 2, none⟩ = some (.string key) := K1.out.cell 2
    clear hb K1 K0 B0 CN'
    have TX := Lib.hid (tx_new w1 #[.string A] [A] rfl)
    have B2 := Lib.hid (B1.out.alloc B1.out.size (.cells #[.string A] 9))
    go_wp2_with fail
    generalize (w1.alloc (.cells #[.string A] 9)) = w2 at *
    refine (items_any st 3 _ [A] w2 (HT.out.below B2.out) TX.out (by simp)).mono ?_
    rintro e w3 ⟨v, rfl, hN, hb⟩
    have N := Lib.hid (nd_mono hN B2.out.size); have B3 := Lib.hid (below_then B2.out hb B2.out.size)
    clear hN hb
    go_wp2
    go_ret
    exact ⟨v, rfl, by rw [L.out]; exact N.out, B3.out⟩
end Go.Proofs.YtokghbppdmlfkaaDoor
