/- The document's own Needs: the kinds that are none, and all of them together. -/
import Derived.Test.YtokghbppdmlfkaaDoorPlnRAll
import Derived.Test.YtokghbppdmlfkaaDoorPlnRDir
import Derived.Test.YtokghbppdmlfkaaDoorPlnNeeds
set_option linter.unusedVariables false
set_option linter.unusedSimpArgs false
namespace Go.Proofs.YtokghbppdmlfkaaDoor
open Go.RowKit

theorem ref_needs (q : Opn) (nx : ByteArray) (ks : List ByteArray) (err : Int) (hk : IK q.k) :
    (if (err != 0) = true ∧ asks q.k = true then aboveL q.st (refM q.k (placeB nx) q.key (err != 0)) else itemsL q.st (refM q.k (placeB nx) q.key (err != 0)) (refI q.k (placeB nx) q.key (itemB q.num) ks)) = needsL q nx ks err := by
  obtain ⟨k, st, key, val, num, at_, len⟩ := q
  dsimp only at hk ⊢
  by_cases he : err = 0
  · subst he
    by_cases hp : placeB nx = key
    · rcases hk with rfl | rfl | rfl | rfl | rfl | rfl | rfl | rfl | rfl | rfl | rfl | rfl | rfl | rfl | rfl <;> simp [needsL, refM, refI, asks, keyL, rangeL, itemsL, hp]
    · rcases hk with rfl | rfl | rfl | rfl | rfl | rfl | rfl | rfl | rfl | rfl | rfl | rfl | rfl | rfl | rfl <;> simp [needsL, refM, refI, asks, keyL, rangeL, itemsL, hp]
  · have hb : (err != 0) = true := by simp [he]
    rcases hk with rfl | rfl | rfl | rfl | rfl | rfl | rfl | rfl | rfl | rfl | rfl | rfl | rfl | rfl | rfl <;> simp [needsL, refM, refI, asks, keyL, rangeL, itemsL, hb, he]

set_option maxRecDepth 100000 in
set_option maxHeartbeats 8000000 in
theorem rneeds_none (q : Opn) (nx : ByteArray) (kv : Value) (wr : Bool) (w : World) (hk : ¬ IK q.k) (h6 : q.k ≠ 6) (h7 : q.k ≠ 7) (h12 : q.k ≠ 12) :
    Calls Tryd.prog 8 #[.agg q.cs, .string nx, kv, .bool wr] w (RefPost [] w) := by
  have B0 := Lib.hid (show Below w.heap.size w ((w.alloc (.cells q.cs 23)).alloc (.cells #[.int .i64 q.st, .string ⟨#[]⟩] 38)) from ((Below.refl w.heap.size w).alloc (Nat.le_refl _) _).alloc (by simp) _)
  have K0 := Lib.hid (show Bk ((w.alloc (.cells q.cs 23)).alloc (.cells #[.int .i64 q.st, .string ⟨#[]⟩] 38)) w.heap.size 23 q.cs from (Bk.new w _ _).alloc _)
  have CE := Lib.hid end_any
  unfold RefPost
  unfold IK at hk
  obtain ⟨k, st, key, val, num, at_, len⟩ := q
  unfold Opn.cs at *
  dsimp only at B0 K0 hk h6 h7 h12
  have g6 : (k == 6) = false := by simp [h6]
  have g7 : (k == 7) = false := by simp [h7]
  have g8 : (k == 8) = false := by simp; omega
  have g9 : (k == 9) = false := by simp; omega
  have g10 : (k == 10) = false := by simp; omega
  have g11 : (k == 11) = false := by simp; omega
  have g12 : (k == 12) = false := by simp [h12]
  have g13 : (k == 13) = false := by simp; omega
  have g14 : (k == 14) = false := by simp; omega
  have g15 : (k == 15) = false := by simp; omega
  have g16 : (k == 16) = false := by simp; omega
  have g17 : (k == 17) = false := by simp; omega
  have g18 : (k == 18) = false := by simp; omega
  have g19 : (k == 19) = false := by simp; omega
  have g20 : (k == 20) = false := by simp; omega
  have g21 : (k == 21) = false := by simp; omega
  have g22 : (k == 22) = false := by simp; omega
  have g23 : (k == 23) = false := by simp; omega
  clear hk h6 h7 h12
  go_enter Tryd.func8, Tryd.ntmps8
  go_upto_if 22 with fail
  go_cut [1] (fun s1 wx => Bk wx w.heap.size 23 #[.int .i64 k, .int .i64 st, .string key, .string val, .int .i64 num, .int .i64 at_, .int .i64 len] ∧ Below w.heap.size w wx)
  case first =>
    as_aux_lemma =>
      go_wp2_with fail
      · refine (CE.out _).mono ?_
        rintro e y ⟨rfl, hb⟩
        go_wp2_with fail
        go_meet
        exact ⟨K0.out.kept hb, below_then B0.out hb B0.out.size⟩
      · go_meet
        exact ⟨K0.out, B0.out⟩
  case rest =>
  as_aux_lemma =>
  obtain ⟨k1, b1⟩ := hcut
  have B1 := Lib.hid b1
  have c0 : wc.cell? ⟨w.heap.size, 0, none⟩ = some (.int .i64 k) := k1.cell 0
  clear k1 b1 B0 K0 CE
  go_wp2
  go_ret2
  exact ⟨_, _, rfl, World.ownsRow_nil _ _ _ _, World.ownsRow_nil _ _ _ _, B1.out⟩

theorem rneeds_any (q : Opn) (nx : ByteArray) (kv : Value) (ks : List ByteArray) (err : Int) (w : World) (hT : TxAt w w.heap.size kv ks) (hn : ks.length ≤ 1500000) (lo : -9223372036854775808 ≤ q.num) (hi0 : q.num ≤ 9223372036854775807) :
    Calls Tryd.prog 8 #[.agg q.cs, .string nx, kv, .bool (err != 0)] w (RefPost (needsL q nx ks err) w) := by
  by_cases hk : IK q.k
  · rw [← ref_needs q nx ks err hk]
    exact rneeds_items q nx kv ks (err != 0) w hk hT hn lo hi0
  by_cases h6 : q.k = 6
  · obtain ⟨k, st, key, val, num, at_, len⟩ := q
    dsimp only at h6
    subst h6
    exact rneeds_k6 st num at_ len key val nx kv _ w
  by_cases h7 : q.k = 7
  · obtain ⟨k, st, key, val, num, at_, len⟩ := q
    dsimp only at h7
    subst h7
    exact rneeds_k7 st num at_ len key val nx kv _ w
  by_cases h12 : q.k = 12
  · obtain ⟨k, st, key, val, num, at_, len⟩ := q
    dsimp only at h12
    subst h12
    exact rneeds_k12 st num at_ len key val nx kv _ w
  have e : needsL q nx ks err = [] := by
    unfold IK at hk
    unfold needsL
    repeat (rw [if_neg (by omega)])
  rw [e]
  exact rneeds_none q nx kv _ w hk h6 h7 h12
end Go.Proofs.YtokghbppdmlfkaaDoor
