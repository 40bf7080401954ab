/- The walk of plan.Needs, kind by kind. -/
import Derived.Test.YtokghbppdmlfkaaDoorPlnRange
import Derived.Deep.RegionHeld3
set_option linter.unusedVariables false
set_option linter.unusedSimpArgs false
namespace Go.Proofs.YtokghbppdmlfkaaDoor
open Go.RowKit

def needsL (q : Opn) (nx : ByteArray) (ks : List ByteArray) (err : Int) : List Nd :=
  if q.k = 6 then [nd0 6] else if q.k = 7 then [nd0 2, ⟨q.st, ⟨#[]⟩, 6⟩] else if q.k = 12 then [nd0 1, ⟨q.st, ⟨#[]⟩, 3⟩] else if q.k = 8 then aboveL q.st 6
  else if q.k = 9 ∨ q.k = 19 ∨ q.k = 20 then itemsL q.st 3 [itemB q.num]
  else if q.k = 10 ∨ q.k = 11 ∨ q.k = 18 ∨ q.k = 21 ∨ q.k = 22 ∨ q.k = 23 then itemsL q.st 6 [itemB q.num]
  else if q.k = 14 ∨ q.k = 15 ∨ q.k = 16 ∨ q.k = 13 then keyL q nx err
  else if q.k = 17 then rangeL q ks err else []
def NeedsPost (l : List Nd) (w : World) (e : Ending) (w' : World) : Prop := ∃ v, e = .returned v ∧ NdAt w' w.heap.size v l ∧ Below w.heap.size w w'
/-- What is known of a peek and of an operation that it fits. -/
structure Pk (w : World) (o q : Opn) (kv : Value) (ks : List ByteArray) : Prop where
  tab : Tab w
  keys : TxAt w w.heap.size kv ks
  few : ks.length ≤ 1500000
  st : q.st = o.st
  key : q.key = o.key
  num : q.num = o.num
  lo : -9223372036854775808 ≤ q.num
  hi : q.num ≤ 9223372036854775807

set_option maxRecDepth 100000 in
set_option maxHeartbeats 1000000 in
theorem needs_k6 (o q : Opn) (nx : ByteArray) (kv : Value) (ks : List ByteArray) (err : Int) (w : World) (h : Pk w o q kv ks) (hk : q.k = 6) :
    Calls Tryd.prog 7 #[pkv o nx kv err, .agg q.cs] w (NeedsPost (needsL q nx ks err) w) := by
  have B0 := Lib.hid ((Below.refl w.heap.size w).alloc (Nat.le_refl _) (.cells q.cs 23))
  have K0 := Lib.hid (Bk.new w 23 q.cs)
  have H := Lib.hid h
  have HT := Lib.hid (h.tab.below ((Below.refl _ _).alloc (Nat.le_refl _) (.cells q.cs 23)))
  unfold NeedsPost
  have L := Lib.hid (show needsL q nx ks err = [⟨0, ⟨#[]⟩, 6⟩] by unfold needsL nd0; simp [hk])
  generalize needsL q nx ks err = nl at *
  clear h
  obtain ⟨k, st, key, val, num, at_, len⟩ := q
  dsimp only at hk
  subst hk
  have KX := Lib.hid K0.out
  unfold Opn.cs at *
  dsimp only at B0 K0 HT KX
  go_enter Tryd.func7, Tryd.ntmps7
  have N := Lib.hid (nd_made (w.alloc (.cells #[.int .i64 6, .int .i64 st, .string key, .string val, .int .i64 num, .int .i64 at_, .int .i64 len] 23)) #[.int .i64 0, .string ⟨#[]⟩, .int .i64 6] [⟨0, ⟨#[]⟩, 6⟩] rfl rfl (by simp [maxLen]))
  have B := Lib.hid (B0.out.alloc B0.out.size (.cells #[.int .i64 0, .string ⟨#[]⟩, .int .i64 6] 40))
  go_wp2
  go_ret
  exact ⟨_, rfl, by rw [L.out]; have := nd_mono N.out B0.out.size; rw [World.size_alloc] at this; exact this, B.out⟩
set_option maxRecDepth 100000 in
set_option maxHeartbeats 1000000 in
theorem needs_k7 (o q : Opn) (nx : ByteArray) (kv : Value) (ks : List ByteArray) (err : Int) (w : World) (h : Pk w o q kv ks) (hk : q.k = 7) :
    Calls Tryd.prog 7 #[pkv o nx kv err, .agg q.cs] w (NeedsPost (needsL q nx ks err) w) := by
  have B0 := Lib.hid ((Below.refl w.heap.size w).alloc (Nat.le_refl _) (.cells q.cs 23))
  have K0 := Lib.hid (Bk.new w 23 q.cs)
  have H := Lib.hid h
  have HT := Lib.hid (h.tab.below ((Below.refl _ _).alloc (Nat.le_refl _) (.cells q.cs 23)))
  unfold NeedsPost
  have L := Lib.hid (show needsL q nx ks err = [⟨0, ⟨#[]⟩, 2⟩, ⟨q.st, ⟨#[]⟩, 6⟩] by unfold needsL nd0; simp [hk])
  generalize needsL q nx ks err = nl at *
  clear h
  obtain ⟨k, st, key, val, num, at_, len⟩ := q
  dsimp only at hk
  subst hk
  have KX := Lib.hid K0.out
  unfold Opn.cs at *
  dsimp only at B0 K0 HT KX
  go_enter Tryd.func7, Tryd.ntmps7
  have N := Lib.hid (nd_made (w.alloc (.cells #[.int .i64 7, .int .i64 st, .string key, .string val, .int .i64 num, .int .i64 at_, .int .i64 len] 23)) #[.int .i64 0, .string ⟨#[]⟩, .int .i64 2, .int .i64 st, .string ⟨#[]⟩, .int .i64 6] [⟨0, ⟨#[]⟩, 2⟩, ⟨st, ⟨#[]⟩, 6⟩] rfl rfl (by simp [maxLen]))
  have B := Lib.hid (B0.out.alloc B0.out.size (.cells #[.int .i64 0, .string ⟨#[]⟩, .int .i64 2, .int .i64 st, .string ⟨#[]⟩, .int .i64 6] 40))
  go_wp2
  go_ret
  exact ⟨_, rfl, by rw [L.out]; have := nd_mono N.out B0.out.size; rw [World.size_alloc] at this; exact this, B.out⟩
set_option maxRecDepth 100000 in
set_option maxHeartbeats 1000000 in
theorem needs_k12 (o q : Opn) (nx : ByteArray) (kv : Value) (ks : List ByteArray) (err : Int) (w : World) (h : Pk w o q kv ks) (hk : q.k = 12) :
    Calls Tryd.prog 7 #[pkv o nx kv err, .agg q.cs] w (NeedsPost (needsL q nx ks err) w) := by
  have B0 := Lib.hid ((Below.refl w.heap.size w).alloc (Nat.le_refl _) (.cells q.cs 23))
  have K0 := Lib.hid (Bk.new w 23 q.cs)
  have H := Lib.hid h
  have HT := Lib.hid (h.tab.below ((Below.refl _ _).alloc (Nat.le_refl _) (.cells q.cs 23)))
  unfold NeedsPost
  have L := Lib.hid (show needsL q nx ks err = [⟨0, ⟨#[]⟩, 1⟩, ⟨q.st, ⟨#[]⟩, 3⟩] by unfold needsL nd0; simp [hk])
  generalize needsL q nx ks err = nl at *
  clear h
  obtain ⟨k, st, key, val, num, at_, len⟩ := q
  dsimp only at hk
  subst hk
  have KX := Lib.hid K0.out
  unfold Opn.cs at *
  dsimp only at B0 K0 HT KX
  go_enter Tryd.func7, Tryd.ntmps7
  have N := Lib.hid (nd_made (w.alloc (.cells #[.int .i64 12, .int .i64 st, .string key, .string val, .int .i64 num, .int .i64 at_, .int .i64 len] 23)) #[.int .i64 0, .string ⟨#[]⟩, .int .i64 1, .int .i64 st, .string ⟨#[]⟩, .int .i64 3] [⟨0, ⟨#[]⟩, 1⟩, ⟨st, ⟨#[]⟩, 3⟩] rfl rfl (by simp [maxLen]))
  have B := Lib.hid (B0.out.alloc B0.out.size (.cells #[.int .i64 0, .string ⟨#[]⟩, .int .i64 1, .int .i64 st, .string ⟨#[]⟩, .int .i64 3] 40))
  go_wp2
  go_ret
  exact ⟨_, rfl, by rw [L.out]; have := nd_mono N.out B0.out.size; rw [World.size_alloc] at this; exact this, B.out⟩
set_option maxRecDepth 100000 in
set_option maxHeartbeats 1000000 in
theorem needs_k8 (o q : Opn) (nx : ByteArray) (kv : Value) (ks : List ByteArray) (err : Int) (w : World) (h : Pk w o q kv ks) (hk : q.k = 8) :
    Calls Tryd.prog 7 #[pkv o nx kv err, .agg q.cs] w (NeedsPost (needsL q nx ks err) w) := by
  have B0 := Lib.hid ((Below.refl w.heap.size w).alloc (Nat.le_refl _) (.cells q.cs 23))
  have K0 := Lib.hid (Bk.new w 23 q.cs)
  have H := Lib.hid h
  have HT := Lib.hid (h.tab.below ((Below.refl _ _).alloc (Nat.le_refl _) (.cells q.cs 23)))
  unfold NeedsPost
  have L := Lib.hid (show needsL q nx ks err = aboveL q.st 6 by unfold needsL; simp [hk])
  generalize needsL q nx ks err = nl at *
  clear h
  obtain ⟨k, st, key, val, num, at_, len⟩ := q
  dsimp only at hk
  subst hk
  have KX := Lib.hid K0.out
  unfold Opn.cs at *
  dsimp only at B0 K0 HT KX
  have C := Lib.hid (fun w hT => above_any st 6 w hT)
  go_enter Tryd.func7, Tryd.ntmps7
  go_wp2_with fail
  refine (C.out _ HT.out).mono ?_
  rintro e w3 ⟨v, rfl, hN, hb⟩
  have N := Lib.hid (nd_mono hN B0.out.size); have B3 := Lib.hid (below_then B0.out hb B0.out.size)
  clear hN hb
  go_wp2
  go_ret
  exact ⟨v, rfl, by rw [L.out]; exact N.out, B3.out⟩
set_option maxRecDepth 100000 in
set_option maxHeartbeats 1000000 in
theorem needs_k9 (o q : Opn) (nx : ByteArray) (kv : Value) (ks : List ByteArray) (err : Int) (w : World) (h : Pk w o q kv ks) (hk : q.k = 9) :
    Calls Tryd.prog 7 #[pkv o nx kv err, .agg q.cs] w (NeedsPost (needsL q nx ks err) w) := by
  have B0 := Lib.hid ((Below.refl w.heap.size w).alloc (Nat.le_refl _) (.cells q.cs 23))
  have K0 := Lib.hid (Bk.new w 23 q.cs)
  have H := Lib.hid h
  have HT := Lib.hid (h.tab.below ((Below.refl _ _).alloc (Nat.le_refl _) (.cells q.cs 23)))
  unfold NeedsPost
  have L := Lib.hid (show needsL q nx ks err = itemsL q.st 3 [itemB q.num] by unfold needsL; simp [hk])
  have CI := Lib.hid (fun w => item_any q.num w h.lo h.hi)
  generalize needsL q nx ks err = nl at *
  clear h
  obtain ⟨k, st, key, val, num, at_, len⟩ := q
  dsimp only at hk
  subst hk
  have KX := Lib.hid K0.out
  unfold Opn.cs at *
  dsimp only at B0 K0 HT KX
  dsimp only at L CI
  generalize itemB num = itm at *
  go_enter Tryd.func7, Tryd.ntmps7
  go_wp2_with fail
  clear KX
  generalize w.alloc (.cells #[.int .i64 9, .int .i64 st, .string key, .string val, .int .i64 num, .int .i64 at_, .int .i64 len] 23) = w0 at *
  have x1 : w0.cell? ⟨w.heap.size, 1, none⟩ = some (.int .i64 st) := K0.out.cell 1
  have x4 : w0.cell? ⟨w.heap.size, 4, none⟩ = some (.int .i64 num) := K0.out.cell 4
  go_region_held3 (fun w' => w'.cell? ⟨w.heap.size, 1, none⟩ = some (.int .i64 st) ∧ w'.cell? ⟨w.heap.size, 4, none⟩ = some (.int .i64 num)) (first | exact k3 | exact k2 | exact k1 | exact ⟨x1, x4⟩)
    (first
      | (go_simp; go_at_call 15; refine (CI.out _).mono ?_; rintro e w1 ⟨rfl, hb1⟩; have K1 := Lib.hid ((K0.out.drew).kept hb1); have B1 := Lib.hid (below_then B0.out.drew hb1 B0.out.size); have T1 := Lib.hid (HT.out.below ((Below.refl w0.heap.size w0).drew.trans hb1)); clear hb1; have k1 : w1.cell? ⟨w.heap.size, 1, none⟩ = some (.int .i64 st) ∧ w1.cell? ⟨w.heap.size, 4, none⟩ = some (.int .i64 num) := ⟨K1.out.cell 1, K1.out.cell 4⟩; have k2 : (w1.alloc (.cells #[.string itm] 9)).cell? ⟨w.heap.size, 1, none⟩ = some (.int .i64 st) ∧ (w1.alloc (.cells #[.string itm] 9)).cell? ⟨w.heap.size, 4, none⟩ = some (.int .i64 num) := ⟨(K1.out.alloc _).cell 1, (K1.out.alloc _).cell 4⟩)
      | (go_simp; go_at_call 14; refine (items_any st 3 _ [itm] (w1.alloc (.cells #[.string itm] 9)) (T1.out.below ((Below.refl _ _).alloc (Nat.le_refl _) _)) (tx_new w1 #[.string itm] [itm] rfl) (by simp)).mono ?_; rintro e w3 ⟨v3, rfl, hN, hb3⟩; have K3 := Lib.hid ((K1.out.alloc (.cells #[.string itm] 9)).kept hb3); have N := Lib.hid (show NdAt w3 w.heap.size v3 (itemsL st 3 [itm]) from nd_mono hN (by have := B1.out.size; simp; omega)); have B3 := Lib.hid (below_then (B1.out.alloc B1.out.size (.cells #[.string itm] 9)) hb3 (by have := B1.out.size; simp; omega)); clear hN hb3; have k3 : w3.cell? ⟨w.heap.size, 1, none⟩ = some (.int .i64 st) ∧ w3.cell? ⟨w.heap.size, 4, none⟩ = some (.int .i64 num) := ⟨K3.out.cell 1, K3.out.cell 4⟩))
  clear k1 k2 k3 x1 x4
  go_wp2
  go_ret
  exact ⟨v3, rfl, by rw [L.out]; exact N.out, B3.out⟩
set_option maxRecDepth 100000 in
set_option maxHeartbeats 1000000 in
theorem needs_k19 (o q : Opn) (nx : ByteArray) (kv : Value) (ks : List ByteArray) (err : Int) (w : World) (h : Pk w o q kv ks) (hk : q.k = 19) :
    Calls Tryd.prog 7 #[pkv o nx kv err, .agg q.cs] w (NeedsPost (needsL q nx ks err) w) := by
  have B0 := Lib.hid ((Below.refl w.heap.size w).alloc (Nat.le_refl _) (.cells q.cs 23))
  have K0 := Lib.hid (Bk.new w 23 q.cs)
  have H := Lib.hid h
  have HT := Lib.hid (h.tab.below ((Below.refl _ _).alloc (Nat.le_refl _) (.cells q.cs 23)))
  unfold NeedsPost
  have L := Lib.hid (show needsL q nx ks err = itemsL q.st 3 [itemB q.num] by unfold needsL; simp [hk])
  have CI := Lib.hid (fun w => item_any q.num w h.lo h.hi)
  generalize needsL q nx ks err = nl at *
  clear h
  obtain ⟨k, st, key, val, num, at_, len⟩ := q
  dsimp only at hk
  subst hk
  have KX := Lib.hid K0.out
  unfold Opn.cs at *
  dsimp only at B0 K0 HT KX
  dsimp only at L CI
  generalize itemB num = itm at *
  go_enter Tryd.func7, Tryd.ntmps7
  go_wp2_with fail
  clear KX
  generalize w.alloc (.cells #[.int .i64 19, .int .i64 st, .string key, .string val, .int .i64 num, .int .i64 at_, .int .i64 len] 23) = w0 at *
  have x1 : w0.cell? ⟨w.heap.size, 1, none⟩ = some (.int .i64 st) := K0.out.cell 1
  have x4 : w0.cell? ⟨w.heap.size, 4, none⟩ = some (.int .i64 num) := K0.out.cell 4
  go_region_held3 (fun w' => w'.cell? ⟨w.heap.size, 1, none⟩ = some (.int .i64 st) ∧ w'.cell? ⟨w.heap.size, 4, none⟩ = some (.int .i64 num)) (first | exact k3 | exact k2 | exact k1 | exact ⟨x1, x4⟩)
    (first
      | (go_simp; go_at_call 15; refine (CI.out _).mono ?_; rintro e w1 ⟨rfl, hb1⟩; have K1 := Lib.hid ((K0.out.drew).kept hb1); have B1 := Lib.hid (below_then B0.out.drew hb1 B0.out.size); have T1 := Lib.hid (HT.out.below ((Below.refl w0.heap.size w0).drew.trans hb1)); clear hb1; have k1 : w1.cell? ⟨w.heap.size, 1, none⟩ = some (.int .i64 st) ∧ w1.cell? ⟨w.heap.size, 4, none⟩ = some (.int .i64 num) := ⟨K1.out.cell 1, K1.out.cell 4⟩; have k2 : (w1.alloc (.cells #[.string itm] 9)).cell? ⟨w.heap.size, 1, none⟩ = some (.int .i64 st) ∧ (w1.alloc (.cells #[.string itm] 9)).cell? ⟨w.heap.size, 4, none⟩ = some (.int .i64 num) := ⟨(K1.out.alloc _).cell 1, (K1.out.alloc _).cell 4⟩)
      | (go_simp; go_at_call 14; refine (items_any st 3 _ [itm] (w1.alloc (.cells #[.string itm] 9)) (T1.out.below ((Below.refl _ _).alloc (Nat.le_refl _) _)) (tx_new w1 #[.string itm] [itm] rfl) (by simp)).mono ?_; rintro e w3 ⟨v3, rfl, hN, hb3⟩; have K3 := Lib.hid ((K1.out.alloc (.cells #[.string itm] 9)).kept hb3); have N := Lib.hid (show NdAt w3 w.heap.size v3 (itemsL st 3 [itm]) from nd_mono hN (by have := B1.out.size; simp; omega)); have B3 := Lib.hid (below_then (B1.out.alloc B1.out.size (.cells #[.string itm] 9)) hb3 (by have := B1.out.size; simp; omega)); clear hN hb3; have k3 : w3.cell? ⟨w.heap.size, 1, none⟩ = some (.int .i64 st) ∧ w3.cell? ⟨w.heap.size, 4, none⟩ = some (.int .i64 num) := ⟨K3.out.cell 1, K3.out.cell 4⟩))
  clear k1 k2 k3 x1 x4
  go_wp2
  go_ret
  exact ⟨v3, rfl, by rw [L.out]; exact N.out, B3.out⟩
set_option maxRecDepth 100000 in
set_option maxHeartbeats 1000000 in
theorem needs_k20 (o q : Opn) (nx : ByteArray) (kv : Value) (ks : List ByteArray) (err : Int) (w : World) (h : Pk w o q kv ks) (hk : q.k = 20) :
    Calls Tryd.prog 7 #[pkv o nx kv err, .agg q.cs] w (NeedsPost (needsL q nx ks err) w) := by
  have B0 := Lib.hid ((Below.refl w.heap.size w).alloc (Nat.le_refl _) (.cells q.cs 23))
  have K0 := Lib.hid (Bk.new w 23 q.cs)
  have H := Lib.hid h
  have HT := Lib.hid (h.tab.below ((Below.refl _ _).alloc (Nat.le_refl _) (.cells q.cs 23)))
  unfold NeedsPost
  have L := Lib.hid (show needsL q nx ks err = itemsL q.st 3 [itemB q.num] by unfold needsL; simp [hk])
  have CI := Lib.hid (fun w => item_any q.num w h.lo h.hi)
  generalize needsL q nx ks err = nl at *
  clear h
  obtain ⟨k, st, key, val, num, at_, len⟩ := q
  dsimp only at hk
  subst hk
  have KX := Lib.hid K0.out
  unfold Opn.cs at *
  dsimp only at B0 K0 HT KX
  dsimp only at L CI
  generalize itemB num = itm at *
  go_enter Tryd.func7, Tryd.ntmps7
  go_wp2_with fail
  clear KX
  generalize w.alloc (.cells #[.int .i64 20, .int .i64 st, .string key, .string val, .int .i64 num, .int .i64 at_, .int .i64 len] 23) = w0 at *
  have x1 : w0.cell? ⟨w.heap.size, 1, none⟩ = some (.int .i64 st) := K0.out.cell 1
  have x4 : w0.cell? ⟨w.heap.size, 4, none⟩ = some (.int .i64 num) := K0.out.cell 4
  go_region_held3 (fun w' => w'.cell? ⟨w.heap.size, 1, none⟩ = some (.int .i64 st) ∧ w'.cell? ⟨w.heap.size, 4, none⟩ = some (.int .i64 num)) (first | exact k3 | exact k2 | exact k1 | exact ⟨x1, x4⟩)
    (first
      | (go_simp; go_at_call 15; refine (CI.out _).mono ?_; rintro e w1 ⟨rfl, hb1⟩; have K1 := Lib.hid ((K0.out.drew).kept hb1); have B1 := Lib.hid (below_then B0.out.drew hb1 B0.out.size); have T1 := Lib.hid (HT.out.below ((Below.refl w0.heap.size w0).drew.trans hb1)); clear hb1; have k1 : w1.cell? ⟨w.heap.size, 1, none⟩ = some (.int .i64 st) ∧ w1.cell? ⟨w.heap.size, 4, none⟩ = some (.int .i64 num) := ⟨K1.out.cell 1, K1.out.cell 4⟩; have k2 : (w1.alloc (.cells #[.string itm] 9)).cell? ⟨w.heap.size, 1, none⟩ = some (.int .i64 st) ∧ (w1.alloc (.cells #[.string itm] 9)).cell? ⟨w.heap.size, 4, none⟩ = some (.int .i64 num) := ⟨(K1.out.alloc _).cell 1, (K1.out.alloc _).cell 4⟩)
      | (go_simp; go_at_call 14; refine (items_any st 3 _ [itm] (w1.alloc (.cells #[.string itm] 9)) (T1.out.below ((Below.refl _ _).alloc (Nat.le_refl _) _)) (tx_new w1 #[.string itm] [itm] rfl) (by simp)).mono ?_; rintro e w3 ⟨v3, rfl, hN, hb3⟩; have K3 := Lib.hid ((K1.out.alloc (.cells #[.string itm] 9)).kept hb3); have N := Lib.hid (show NdAt w3 w.heap.size v3 (itemsL st 3 [itm]) from nd_mono hN (by have := B1.out.size; simp; omega)); have B3 := Lib.hid (below_then (B1.out.alloc B1.out.size (.cells #[.string itm] 9)) hb3 (by have := B1.out.size; simp; omega)); clear hN hb3; have k3 : w3.cell? ⟨w.heap.size, 1, none⟩ = some (.int .i64 st) ∧ w3.cell? ⟨w.heap.size, 4, none⟩ = some (.int .i64 num) := ⟨K3.out.cell 1, K3.out.cell 4⟩))
  clear k1 k2 k3 x1 x4
  go_wp2
  go_ret
  exact ⟨v3, rfl, by rw [L.out]; exact N.out, B3.out⟩
set_option maxRecDepth 100000 in
set_option maxHeartbeats 1000000 in
theorem needs_k10 (o q : Opn) (nx : ByteArray) (kv : Value) (ks : List ByteArray) (err : Int) (w : World) (h : Pk w o q kv ks) (hk : q.k = 10) :
    Calls Tryd.prog 7 #[pkv o nx kv err, .agg q.cs] w (NeedsPost (needsL q nx ks err) w) := by
  have B0 := Lib.hid ((Below.refl w.heap.size w).alloc (Nat.le_refl _) (.cells q.cs 23))
  have K0 := Lib.hid (Bk.new w 23 q.cs)
  have H := Lib.hid h
  have HT := Lib.hid (h.tab.below ((Below.refl _ _).alloc (Nat.le_refl _) (.cells q.cs 23)))
  unfold NeedsPost
  have L := Lib.hid (show needsL q nx ks err = itemsL q.st 6 [itemB q.num] by unfold needsL; simp [hk])
  have CI := Lib.hid (fun w => item_any q.num w h.lo h.hi)
  generalize needsL q nx ks err = nl at *
  clear h
  obtain ⟨k, st, key, val, num, at_, len⟩ := q
  dsimp only at hk
  subst hk
  have KX := Lib.hid K0.out
  unfold Opn.cs at *
  dsimp only at B0 K0 HT KX
  dsimp only at L CI
  generalize itemB num = itm at *
  go_enter Tryd.func7, Tryd.ntmps7
  go_wp2_with fail
  clear KX
  generalize w.alloc (.cells #[.int .i64 10, .int .i64 st, .string key, .string val, .int .i64 num, .int .i64 at_, .int .i64 len] 23) = w0 at *
  have x1 : w0.cell? ⟨w.heap.size, 1, none⟩ = some (.int .i64 st) := K0.out.cell 1
  have x4 : w0.cell? ⟨w.heap.size, 4, none⟩ = some (.int .i64 num) := K0.out.cell 4
  go_region_held3 (fun w' => w'.cell? ⟨w.heap.size, 1, none⟩ = some (.int .i64 st) ∧ w'.cell? ⟨w.heap.size, 4, none⟩ = some (.int .i64 num)) (first | exact k3 | exact k2 | exact k1 | exact ⟨x1, x4⟩)
    (first
      | (go_simp; go_at_call 15; refine (CI.out _).mono ?_; rintro e w1 ⟨rfl, hb1⟩; have K1 := Lib.hid ((K0.out.drew).kept hb1); have B1 := Lib.hid (below_then B0.out.drew hb1 B0.out.size); have T1 := Lib.hid (HT.out.below ((Below.refl w0.heap.size w0).drew.trans hb1)); clear hb1; have k1 : w1.cell? ⟨w.heap.size, 1, none⟩ = some (.int .i64 st) ∧ w1.cell? ⟨w.heap.size, 4, none⟩ = some (.int .i64 num) := ⟨K1.out.cell 1, K1.out.cell 4⟩; have k2 : (w1.alloc (.cells #[.string itm] 9)).cell? ⟨w.heap.size, 1, none⟩ = some (.int .i64 st) ∧ (w1.alloc (.cells #[.string itm] 9)).cell? ⟨w.heap.size, 4, none⟩ = some (.int .i64 num) := ⟨(K1.out.alloc _).cell 1, (K1.out.alloc _).cell 4⟩)
      | (go_simp; go_at_call 14; refine (items_any st 6 _ [itm] (w1.alloc (.cells #[.string itm] 9)) (T1.out.below ((Below.refl _ _).alloc (Nat.le_refl _) _)) (tx_new w1 #[.string itm] [itm] rfl) (by simp)).mono ?_; rintro e w3 ⟨v3, rfl, hN, hb3⟩; have K3 := Lib.hid ((K1.out.alloc (.cells #[.string itm] 9)).kept hb3); have N := Lib.hid (show NdAt w3 w.heap.size v3 (itemsL st 6 [itm]) from nd_mono hN (by have := B1.out.size; simp; omega)); have B3 := Lib.hid (below_then (B1.out.alloc B1.out.size (.cells #[.string itm] 9)) hb3 (by have := B1.out.size; simp; omega)); clear hN hb3; have k3 : w3.cell? ⟨w.heap.size, 1, none⟩ = some (.int .i64 st) ∧ w3.cell? ⟨w.heap.size, 4, none⟩ = some (.int .i64 num) := ⟨K3.out.cell 1, K3.out.cell 4⟩))
  clear k1 k2 k3 x1 x4
  go_wp2
  go_ret
  exact ⟨v3, rfl, by rw [L.out]; exact N.out, B3.out⟩
set_option maxRecDepth 100000 in
set_option maxHeartbeats 1000000 in
theorem needs_k11 (o q : Opn) (nx : ByteArray) (kv : Value) (ks : List ByteArray) (err : Int) (w : World) (h : Pk w o q kv ks) (hk : q.k = 11) :
    Calls Tryd.prog 7 #[pkv o nx kv err, .agg q.cs] w (NeedsPost (needsL q nx ks err) w) := by
  have B0 := Lib.hid ((Below.refl w.heap.size w).alloc (Nat.le_refl _) (.cells q.cs 23))
  have K0 := Lib.hid (Bk.new w 23 q.cs)
  have H := Lib.hid h
  have HT := Lib.hid (h.tab.below ((Below.refl _ _).alloc (Nat.le_refl _) (.cells q.cs 23)))
  unfold NeedsPost
  have L := Lib.hid (show needsL q nx ks err = itemsL q.st 6 [itemB q.num] by unfold needsL; simp [hk])
  have CI := Lib.hid (fun w => item_any q.num w h.lo h.hi)
  generalize needsL q nx ks err = nl at *
  clear h
  obtain ⟨k, st, key, val, num, at_, len⟩ := q
  dsimp only at hk
  subst hk
  have KX := Lib.hid K0.out
  unfold Opn.cs at *
  dsimp only at B0 K0 HT KX
  dsimp only at L CI
  generalize itemB num = itm at *
  go_enter Tryd.func7, Tryd.ntmps7
  go_wp2_with fail
  clear KX
  generalize w.alloc (.cells #[.int .i64 11, .int .i64 st, .string key, .string val, .int .i64 num, .int .i64 at_, .int .i64 len] 23) = w0 at *
  have x1 : w0.cell? ⟨w.heap.size, 1, none⟩ = some (.int .i64 st) := K0.out.cell 1
  have x4 : w0.cell? ⟨w.heap.size, 4, none⟩ = some (.int .i64 num) := K0.out.cell 4
  go_region_held3 (fun w' => w'.cell? ⟨w.heap.size, 1, none⟩ = some (.int .i64 st) ∧ w'.cell? ⟨w.heap.size, 4, none⟩ = some (.int .i64 num)) (first | exact k3 | exact k2 | exact k1 | exact ⟨x1, x4⟩)
    (first
      | (go_simp; go_at_call 15; refine (CI.out _).mono ?_; rintro e w1 ⟨rfl, hb1⟩; have K1 := Lib.hid ((K0.out.drew).kept hb1); have B1 := Lib.hid (below_then B0.out.drew hb1 B0.out.size); have T1 := Lib.hid (HT.out.below ((Below.refl w0.heap.size w0).drew.trans hb1)); clear hb1; have k1 : w1.cell? ⟨w.heap.size, 1, none⟩ = some (.int .i64 st) ∧ w1.cell? ⟨w.heap.size, 4, none⟩ = some (.int .i64 num) := ⟨K1.out.cell 1, K1.out.cell 4⟩; have k2 : (w1.alloc (.cells #[.string itm] 9)).cell? ⟨w.heap.size, 1, none⟩ = some (.int .i64 st) ∧ (w1.alloc (.cells #[.string itm] 9)).cell? ⟨w.heap.size, 4, none⟩ = some (.int .i64 num) := ⟨(K1.out.alloc _).cell 1, (K1.out.alloc _).cell 4⟩)
      | (go_simp; go_at_call 14; refine (items_any st 6 _ [itm] (w1.alloc (.cells #[.string itm] 9)) (T1.out.below ((Below.refl _ _).alloc (Nat.le_refl _) _)) (tx_new w1 #[.string itm] [itm] rfl) (by simp)).mono ?_; rintro e w3 ⟨v3, rfl, hN, hb3⟩; have K3 := Lib.hid ((K1.out.alloc (.cells #[.string itm] 9)).kept hb3); have N := Lib.hid (show NdAt w3 w.heap.size v3 (itemsL st 6 [itm]) from nd_mono hN (by have := B1.out.size; simp; omega)); have B3 := Lib.hid (below_then (B1.out.alloc B1.out.size (.cells #[.string itm] 9)) hb3 (by have := B1.out.size; simp; omega)); clear hN hb3; have k3 : w3.cell? ⟨w.heap.size, 1, none⟩ = some (.int .i64 st) ∧ w3.cell? ⟨w.heap.size, 4, none⟩ = some (.int .i64 num) := ⟨K3.out.cell 1, K3.out.cell 4⟩))
  clear k1 k2 k3 x1 x4
  go_wp2
  go_ret
  exact ⟨v3, rfl, by rw [L.out]; exact N.out, B3.out⟩
set_option maxRecDepth 100000 in
set_option maxHeartbeats 1000000 in
theorem needs_k18 (o q : Opn) (nx : ByteArray) (kv : Value) (ks : List ByteArray) (err : Int) (w : World) (h : Pk w o q kv ks) (hk : q.k = 18) :
    Calls Tryd.prog 7 #[pkv o nx kv err, .agg q.cs] w (NeedsPost (needsL q nx ks err) w) := by
  have B0 := Lib.hid ((Below.refl w.heap.size w).alloc (Nat.le_refl _) (.cells q.cs 23))
  have K0 := Lib.hid (Bk.new w 23 q.cs)
  have H := Lib.hid h
  have HT := Lib.hid (h.tab.below ((Below.refl _ _).alloc (Nat.le_refl _) (.cells q.cs 23)))
  unfold NeedsPost
  have L := Lib.hid (show needsL q nx ks err = itemsL q.st 6 [itemB q.num] by unfold needsL; simp [hk])
  have CI := Lib.hid (fun w => item_any q.num w h.lo h.hi)
  generalize needsL q nx ks err = nl at *
  clear h
  obtain ⟨k, st, key, val, num, at_, len⟩ := q
  dsimp only at hk
  subst hk
  have KX := Lib.hid K0.out
  unfold Opn.cs at *
  dsimp only at B0 K0 HT KX
  dsimp only at L CI
  generalize itemB num = itm at *
  go_enter Tryd.func7, Tryd.ntmps7
  go_wp2_with fail
  clear KX
  generalize w.alloc (.cells #[.int .i64 18, .int .i64 st, .string key, .string val, .int .i64 num, .int .i64 at_, .int .i64 len] 23) = w0 at *
  have x1 : w0.cell? ⟨w.heap.size, 1, none⟩ = some (.int .i64 st) := K0.out.cell 1
  have x4 : w0.cell? ⟨w.heap.size, 4, none⟩ = some (.int .i64 num) := K0.out.cell 4
  go_region_held3 (fun w' => w'.cell? ⟨w.heap.size, 1, none⟩ = some (.int .i64 st) ∧ w'.cell? ⟨w.heap.size, 4, none⟩ = some (.int .i64 num)) (first | exact k3 | exact k2 | exact k1 | exact ⟨x1, x4⟩)
    (first
      | (go_simp; go_at_call 15; refine (CI.out _).mono ?_; rintro e w1 ⟨rfl, hb1⟩; have K1 := Lib.hid ((K0.out.drew).kept hb1); have B1 := Lib.hid (below_then B0.out.drew hb1 B0.out.size); have T1 := Lib.hid (HT.out.below ((Below.refl w0.heap.size w0).drew.trans hb1)); clear hb1; have k1 : w1.cell? ⟨w.heap.size, 1, none⟩ = some (.int .i64 st) ∧ w1.cell? ⟨w.heap.size, 4, none⟩ = some (.int .i64 num) := ⟨K1.out.cell 1, K1.out.cell 4⟩; have k2 : (w1.alloc (.cells #[.string itm] 9)).cell? ⟨w.heap.size, 1, none⟩ = some (.int .i64 st) ∧ (w1.alloc (.cells #[.string itm] 9)).cell? ⟨w.heap.size, 4, none⟩ = some (.int .i64 num) := ⟨(K1.out.alloc _).cell 1, (K1.out.alloc _).cell 4⟩)
      | (go_simp; go_at_call 14; refine (items_any st 6 _ [itm] (w1.alloc (.cells #[.string itm] 9)) (T1.out.below ((Below.refl _ _).alloc (Nat.le_refl _) _)) (tx_new w1 #[.string itm] [itm] rfl) (by simp)).mono ?_; rintro e w3 ⟨v3, rfl, hN, hb3⟩; have K3 := Lib.hid ((K1.out.alloc (.cells #[.string itm] 9)).kept hb3); have N := Lib.hid (show NdAt w3 w.heap.size v3 (itemsL st 6 [itm]) from nd_mono hN (by have := B1.out.size; simp; omega)); have B3 := Lib.hid (below_then (B1.out.alloc B1.out.size (.cells #[.string itm] 9)) hb3 (by have := B1.out.size; simp; omega)); clear hN hb3; have k3 : w3.cell? ⟨w.heap.size, 1, none⟩ = some (.int .i64 st) ∧ w3.cell? ⟨w.heap.size, 4, none⟩ = some (.int .i64 num) := ⟨K3.out.cell 1, K3.out.cell 4⟩))
  clear k1 k2 k3 x1 x4
  go_wp2
  go_ret
  exact ⟨v3, rfl, by rw [L.out]; exact N.out, B3.out⟩
set_option maxRecDepth 100000 in
set_option maxHeartbeats 1000000 in
theorem needs_k21 (o q : Opn) (nx : ByteArray) (kv : Value) (ks : List ByteArray) (err : Int) (w : World) (h : Pk w o q kv ks) (hk : q.k = 21) :
    Calls Tryd.prog 7 #[pkv o nx kv err, .agg q.cs] w (NeedsPost (needsL q nx ks err) w) := by
  have B0 := Lib.hid ((Below.refl w.heap.size w).alloc (Nat.le_refl _) (.cells q.cs 23))
  have K0 := Lib.hid (Bk.new w 23 q.cs)
  have H := Lib.hid h
  have HT := Lib.hid (h.tab.below ((Below.refl _ _).alloc (Nat.le_refl _) (.cells q.cs 23)))
  unfold NeedsPost
  have L := Lib.hid (show needsL q nx ks err = itemsL q.st 6 [itemB q.num] by unfold needsL; simp [hk])
  have CI := Lib.hid (fun w => item_any q.num w h.lo h.hi)
  generalize needsL q nx ks err = nl at *
  clear h
  obtain ⟨k, st, key, val, num, at_, len⟩ := q
  dsimp only at hk
  subst hk
  have KX := Lib.hid K0.out
  unfold Opn.cs at *
  dsimp only at B0 K0 HT KX
  dsimp only at L CI
  generalize itemB num = itm at *
  go_enter Tryd.func7, Tryd.ntmps7
  go_wp2_with fail
  clear KX
  generalize w.alloc (.cells #[.int .i64 21, .int .i64 st, .string key, .string val, .int .i64 num, .int .i64 at_, .int .i64 len] 23) = w0 at *
  have x1 : w0.cell? ⟨w.heap.size, 1, none⟩ = some (.int .i64 st) := K0.out.cell 1
  have x4 : w0.cell? ⟨w.heap.size, 4, none⟩ = some (.int .i64 num) := K0.out.cell 4
  go_region_held3 (fun w' => w'.cell? ⟨w.heap.size, 1, none⟩ = some (.int .i64 st) ∧ w'.cell? ⟨w.heap.size, 4, none⟩ = some (.int .i64 num)) (first | exact k3 | exact k2 | exact k1 | exact ⟨x1, x4⟩)
    (first
      | (go_simp; go_at_call 15; refine (CI.out _).mono ?_; rintro e w1 ⟨rfl, hb1⟩; have K1 := Lib.hid ((K0.out.drew).kept hb1); have B1 := Lib.hid (below_then B0.out.drew hb1 B0.out.size); have T1 := Lib.hid (HT.out.below ((Below.refl w0.heap.size w0).drew.trans hb1)); clear hb1; have k1 : w1.cell? ⟨w.heap.size, 1, none⟩ = some (.int .i64 st) ∧ w1.cell? ⟨w.heap.size, 4, none⟩ = some (.int .i64 num) := ⟨K1.out.cell 1, K1.out.cell 4⟩; have k2 : (w1.alloc (.cells #[.string itm] 9)).cell? ⟨w.heap.size, 1, none⟩ = some (.int .i64 st) ∧ (w1.alloc (.cells #[.string itm] 9)).cell? ⟨w.heap.size, 4, none⟩ = some (.int .i64 num) := ⟨(K1.out.alloc _).cell 1, (K1.out.alloc _).cell 4⟩)
      | (go_simp; go_at_call 14; refine (items_any st 6 _ [itm] (w1.alloc (.cells #[.string itm] 9)) (T1.out.below ((Below.refl _ _).alloc (Nat.le_refl _) _)) (tx_new w1 #[.string itm] [itm] rfl) (by simp)).mono ?_; rintro e w3 ⟨v3, rfl, hN, hb3⟩; have K3 := Lib.hid ((K1.out.alloc (.cells #[.string itm] 9)).kept hb3); have N := Lib.hid (show NdAt w3 w.heap.size v3 (itemsL st 6 [itm]) from nd_mono hN (by have := B1.out.size; simp; omega)); have B3 := Lib.hid (below_then (B1.out.alloc B1.out.size (.cells #[.string itm] 9)) hb3 (by have := B1.out.size; simp; omega)); clear hN hb3; have k3 : w3.cell? ⟨w.heap.size, 1, none⟩ = some (.int .i64 st) ∧ w3.cell? ⟨w.heap.size, 4, none⟩ = some (.int .i64 num) := ⟨K3.out.cell 1, K3.out.cell 4⟩))
  clear k1 k2 k3 x1 x4
  go_wp2
  go_ret
  exact ⟨v3, rfl, by rw [L.out]; exact N.out, B3.out⟩
set_option maxRecDepth 100000 in
set_option maxHeartbeats 1000000 in
theorem needs_k22 (o q : Opn) (nx : ByteArray) (kv : Value) (ks : List ByteArray) (err : Int) (w : World) (h : Pk w o q kv ks) (hk : q.k = 22) :
    Calls Tryd.prog 7 #[pkv o nx kv err, .agg q.cs] w (NeedsPost (needsL q nx ks err) w) := by
  have B0 := Lib.hid ((Below.refl w.heap.size w).alloc (Nat.le_refl _) (.cells q.cs 23))
  have K0 := Lib.hid (Bk.new w 23 q.cs)
  have H := Lib.hid h
  have HT := Lib.hid (h.tab.below ((Below.refl _ _).alloc (Nat.le_refl _) (.cells q.cs 23)))
  unfold NeedsPost
  have L := Lib.hid (show needsL q nx ks err = itemsL q.st 6 [itemB q.num] by unfold needsL; simp [hk])
  have CI := Lib.hid (fun w => item_any q.num w h.lo h.hi)
  generalize needsL q nx ks err = nl at *
  clear h
  obtain ⟨k, st, key, val, num, at_, len⟩ := q
  dsimp only at hk
  subst hk
  have KX := Lib.hid K0.out
  unfold Opn.cs at *
  dsimp only at B0 K0 HT KX
  dsimp only at L CI
  generalize itemB num = itm at *
  go_enter Tryd.func7, Tryd.ntmps7
  go_wp2_with fail
  clear KX
  generalize w.alloc (.cells #[.int .i64 22, .int .i64 st, .string key, .string val, .int .i64 num, .int .i64 at_, .int .i64 len] 23) = w0 at *
  have x1 : w0.cell? ⟨w.heap.size, 1, none⟩ = some (.int .i64 st) := K0.out.cell 1
  have x4 : w0.cell? ⟨w.heap.size, 4, none⟩ = some (.int .i64 num) := K0.out.cell 4
  go_region_held3 (fun w' => w'.cell? ⟨w.heap.size, 1, none⟩ = some (.int .i64 st) ∧ w'.cell? ⟨w.heap.size, 4, none⟩ = some (.int .i64 num)) (first | exact k3 | exact k2 | exact k1 | exact ⟨x1, x4⟩)
    (first
      | (go_simp; go_at_call 15; refine (CI.out _).mono ?_; rintro e w1 ⟨rfl, hb1⟩; have K1 := Lib.hid ((K0.out.drew).kept hb1); have B1 := Lib.hid (below_then B0.out.drew hb1 B0.out.size); have T1 := Lib.hid (HT.out.below ((Below.refl w0.heap.size w0).drew.trans hb1)); clear hb1; have k1 : w1.cell? ⟨w.heap.size, 1, none⟩ = some (.int .i64 st) ∧ w1.cell? ⟨w.heap.size, 4, none⟩ = some (.int .i64 num) := ⟨K1.out.cell 1, K1.out.cell 4⟩; have k2 : (w1.alloc (.cells #[.string itm] 9)).cell? ⟨w.heap.size, 1, none⟩ = some (.int .i64 st) ∧ (w1.alloc (.cells #[.string itm] 9)).cell? ⟨w.heap.size, 4, none⟩ = some (.int .i64 num) := ⟨(K1.out.alloc _).cell 1, (K1.out.alloc _).cell 4⟩)
      | (go_simp; go_at_call 14; refine (items_any st 6 _ [itm] (w1.alloc (.cells #[.string itm] 9)) (T1.out.below ((Below.refl _ _).alloc (Nat.le_refl _) _)) (tx_new w1 #[.string itm] [itm] rfl) (by simp)).mono ?_; rintro e w3 ⟨v3, rfl, hN, hb3⟩; have K3 := Lib.hid ((K1.out.alloc (.cells #[.string itm] 9)).kept hb3); have N := Lib.hid (show NdAt w3 w.heap.size v3 (itemsL st 6 [itm]) from nd_mono hN (by have := B1.out.size; simp; omega)); have B3 := Lib.hid (below_then (B1.out.alloc B1.out.size (.cells #[.string itm] 9)) hb3 (by have := B1.out.size; simp; omega)); clear hN hb3; have k3 : w3.cell? ⟨w.heap.size, 1, none⟩ = some (.int .i64 st) ∧ w3.cell? ⟨w.heap.size, 4, none⟩ = some (.int .i64 num) := ⟨K3.out.cell 1, K3.out.cell 4⟩))
  clear k1 k2 k3 x1 x4
  go_wp2
  go_ret
  exact ⟨v3, rfl, by rw [L.out]; exact N.out, B3.out⟩
set_option maxRecDepth 100000 in
set_option maxHeartbeats 1000000 in
theorem needs_k23 (o q : Opn) (nx : ByteArray) (kv : Value) (ks : List ByteArray) (err : Int) (w : World) (h : Pk w o q kv ks) (hk : q.k = 23) :
    Calls Tryd.prog 7 #[pkv o nx kv err, .agg q.cs] w (NeedsPost (needsL q nx ks err) w) := by
  have B0 := Lib.hid ((Below.refl w.heap.size w).alloc (Nat.le_refl _) (.cells q.cs 23))
  have K0 := Lib.hid (Bk.new w 23 q.cs)
  have H := Lib.hid h
  have HT := Lib.hid (h.tab.below ((Below.refl _ _).alloc (Nat.le_refl _) (.cells q.cs 23)))
  unfold NeedsPost
  have L := Lib.hid (show needsL q nx ks err = itemsL q.st 6 [itemB q.num] by unfold needsL; simp [hk])
  have CI := Lib.hid (fun w => item_any q.num w h.lo h.hi)
  generalize needsL q nx ks err = nl at *
  clear h
  obtain ⟨k, st, key, val, num, at_, len⟩ := q
  dsimp only at hk
  subst hk
  have KX := Lib.hid K0.out
  unfold Opn.cs at *
  dsimp only at B0 K0 HT KX
  dsimp only at L CI
  generalize itemB num = itm at *
  go_enter Tryd.func7, Tryd.ntmps7
  go_wp2_with fail
  clear KX
  generalize w.alloc (.cells #[.int .i64 23, .int .i64 st, .string key, .string val, .int .i64 num, .int .i64 at_, .int .i64 len] 23) = w0 at *
  have x1 : w0.cell? ⟨w.heap.size, 1, none⟩ = some (.int .i64 st) := K0.out.cell 1
  have x4 : w0.cell? ⟨w.heap.size, 4, none⟩ = some (.int .i64 num) := K0.out.cell 4
  go_region_held3 (fun w' => w'.cell? ⟨w.heap.size, 1, none⟩ = some (.int .i64 st) ∧ w'.cell? ⟨w.heap.size, 4, none⟩ = some (.int .i64 num)) (first | exact k3 | exact k2 | exact k1 | exact ⟨x1, x4⟩)
    (first
      | (go_simp; go_at_call 15; refine (CI.out _).mono ?_; rintro e w1 ⟨rfl, hb1⟩; have K1 := Lib.hid ((K0.out.drew).kept hb1); have B1 := Lib.hid (below_then B0.out.drew hb1 B0.out.size); have T1 := Lib.hid (HT.out.below ((Below.refl w0.heap.size w0).drew.trans hb1)); clear hb1; have k1 : w1.cell? ⟨w.heap.size, 1, none⟩ = some (.int .i64 st) ∧ w1.cell? ⟨w.heap.size, 4, none⟩ = some (.int .i64 num) := ⟨K1.out.cell 1, K1.out.cell 4⟩; have k2 : (w1.alloc (.cells #[.string itm] 9)).cell? ⟨w.heap.size, 1, none⟩ = some (.int .i64 st) ∧ (w1.alloc (.cells #[.string itm] 9)).cell? ⟨w.heap.size, 4, none⟩ = some (.int .i64 num) := ⟨(K1.out.alloc _).cell 1, (K1.out.alloc _).cell 4⟩)
      | (go_simp; go_at_call 14; refine (items_any st 6 _ [itm] (w1.alloc (.cells #[.string itm] 9)) (T1.out.below ((Below.refl _ _).alloc (Nat.le_refl _) _)) (tx_new w1 #[.string itm] [itm] rfl) (by simp)).mono ?_; rintro e w3 ⟨v3, rfl, hN, hb3⟩; have K3 := Lib.hid ((K1.out.alloc (.cells #[.string itm] 9)).kept hb3); have N := Lib.hid (show NdAt w3 w.heap.size v3 (itemsL st 6 [itm]) from nd_mono hN (by have := B1.out.size; simp; omega)); have B3 := Lib.hid (below_then (B1.out.alloc B1.out.size (.cells #[.string itm] 9)) hb3 (by have := B1.out.size; simp; omega)); clear hN hb3; have k3 : w3.cell? ⟨w.heap.size, 1, none⟩ = some (.int .i64 st) ∧ w3.cell? ⟨w.heap.size, 4, none⟩ = some (.int .i64 num) := ⟨K3.out.cell 1, K3.out.cell 4⟩))
  clear k1 k2 k3 x1 x4
  go_wp2
  go_ret
  exact ⟨v3, rfl, by rw [L.out]; exact N.out, B3.out⟩
set_option maxRecDepth 100000 in
set_option maxHeartbeats 1000000 in
theorem needs_k14 (o q : Opn) (nx : ByteArray) (kv : Value) (ks : List ByteArray) (err : Int) (w : World) (h : Pk w o q kv ks) (hk : q.k = 14) :
    Calls Tryd.prog 7 #[pkv o nx kv err, .agg q.cs] w (NeedsPost (needsL q nx ks err) w) := by
  have B0 := Lib.hid ((Below.refl w.heap.size w).alloc (Nat.le_refl _) (.cells q.cs 23))
  have K0 := Lib.hid (Bk.new w 23 q.cs)
  have H := Lib.hid h
  have HT := Lib.hid (h.tab.below ((Below.refl _ _).alloc (Nat.le_refl _) (.cells q.cs 23)))
  unfold NeedsPost
  have L := Lib.hid (show needsL q nx ks err = keyL q nx err by unfold needsL; simp [hk])
  have C := Lib.hid (keyNeeds_any o q nx kv err (w.alloc (.cells q.cs 23)) HT.out h.st h.key)
  unfold KeyPost at C
  generalize needsL q nx ks err = nl at *
  generalize keyL q nx err = kl at *
  clear h
  obtain ⟨k, st, key, val, num, at_, len⟩ := q
  dsimp only at hk
  subst hk
  have KX := Lib.hid K0.out
  unfold Opn.cs at *
  dsimp only at B0 K0 HT KX C
  go_enter Tryd.func7, Tryd.ntmps7
  go_wp2_with fail
  refine C.out.mono ?_
  rintro e w3 ⟨v, rfl, hN, hb⟩
  have N := Lib.hid (nd_mono hN B0.out.size); have B3 := Lib.hid (below_then B0.out hb B0.out.size)
  clear hN hb
  go_wp2
  go_ret
  exact ⟨v, rfl, by rw [L.out]; exact N.out, B3.out⟩
set_option maxRecDepth 100000 in
set_option maxHeartbeats 1000000 in
theorem needs_k15 (o q : Opn) (nx : ByteArray) (kv : Value) (ks : List ByteArray) (err : Int) (w : World) (h : Pk w o q kv ks) (hk : q.k = 15) :
    Calls Tryd.prog 7 #[pkv o nx kv err, .agg q.cs] w (NeedsPost (needsL q nx ks err) w) := by
  have B0 := Lib.hid ((Below.refl w.heap.size w).alloc (Nat.le_refl _) (.cells q.cs 23))
  have K0 := Lib.hid (Bk.new w 23 q.cs)
  have H := Lib.hid h
  have HT := Lib.hid (h.tab.below ((Below.refl _ _).alloc (Nat.le_refl _) (.cells q.cs 23)))
  unfold NeedsPost
  have L := Lib.hid (show needsL q nx ks err = keyL q nx err by unfold needsL; simp [hk])
  have C := Lib.hid (keyNeeds_any o q nx kv err (w.alloc (.cells q.cs 23)) HT.out h.st h.key)
  unfold KeyPost at C
  generalize needsL q nx ks err = nl at *
  generalize keyL q nx err = kl at *
  clear h
  obtain ⟨k, st, key, val, num, at_, len⟩ := q
  dsimp only at hk
  subst hk
  have KX := Lib.hid K0.out
  unfold Opn.cs at *
  dsimp only at B0 K0 HT KX C
  go_enter Tryd.func7, Tryd.ntmps7
  go_wp2_with fail
  refine C.out.mono ?_
  rintro e w3 ⟨v, rfl, hN, hb⟩
  have N := Lib.hid (nd_mono hN B0.out.size); have B3 := Lib.hid (below_then B0.out hb B0.out.size)
  clear hN hb
  go_wp2
  go_ret
  exact ⟨v, rfl, by rw [L.out]; exact N.out, B3.out⟩
set_option maxRecDepth 100000 in
set_option maxHeartbeats 1000000 in
theorem needs_k16 (o q : Opn) (nx : ByteArray) (kv : Value) (ks : List ByteArray) (err : Int) (w : World) (h : Pk w o q kv ks) (hk : q.k = 16) :
    Calls Tryd.prog 7 #[pkv o nx kv err, .agg q.cs] w (NeedsPost (needsL q nx ks err) w) := by
  have B0 := Lib.hid ((Below.refl w.heap.size w).alloc (Nat.le_refl _) (.cells q.cs 23))
  have K0 := Lib.hid (Bk.new w 23 q.cs)
  have H := Lib.hid h
  have HT := Lib.hid (h.tab.below ((Below.refl _ _).alloc (Nat.le_refl _) (.cells q.cs 23)))
  unfold NeedsPost
  have L := Lib.hid (show needsL q nx ks err = keyL q nx err by unfold needsL; simp [hk])
  have C := Lib.hid (keyNeeds_any o q nx kv err (w.alloc (.cells q.cs 23)) HT.out h.st h.key)
  unfold KeyPost at C
  generalize needsL q nx ks err = nl at *
  generalize keyL q nx err = kl at *
  clear h
  obtain ⟨k, st, key, val, num, at_, len⟩ := q
  dsimp only at hk
  subst hk
  have KX := Lib.hid K0.out
  unfold Opn.cs at *
  dsimp only at B0 K0 HT KX C
  go_enter Tryd.func7, Tryd.ntmps7
  go_wp2_with fail
  refine C.out.mono ?_
  rintro e w3 ⟨v, rfl, hN, hb⟩
  have N := Lib.hid (nd_mono hN B0.out.size); have B3 := Lib.hid (below_then B0.out hb B0.out.size)
  clear hN hb
  go_wp2
  go_ret
  exact ⟨v, rfl, by rw [L.out]; exact N.out, B3.out⟩
set_option maxRecDepth 100000 in
set_option maxHeartbeats 1000000 in
theorem needs_k13 (o q : Opn) (nx : ByteArray) (kv : Value) (ks : List ByteArray) (err : Int) (w : World) (h : Pk w o q kv ks) (hk : q.k = 13) :
    Calls Tryd.prog 7 #[pkv o nx kv err, .agg q.cs] w (NeedsPost (needsL q nx ks err) w) := by
  have B0 := Lib.hid ((Below.refl w.heap.size w).alloc (Nat.le_refl _) (.cells q.cs 23))
  have K0 := Lib.hid (Bk.new w 23 q.cs)
  have H := Lib.hid h
  have HT := Lib.hid (h.tab.below ((Below.refl _ _).alloc (Nat.le_refl _) (.cells q.cs 23)))
  unfold NeedsPost
  have L := Lib.hid (show needsL q nx ks err = keyL q nx err by unfold needsL; simp [hk])
  have C := Lib.hid (keyNeeds_any o q nx kv err (w.alloc (.cells q.cs 23)) HT.out h.st h.key)
  unfold KeyPost at C
  generalize needsL q nx ks err = nl at *
  generalize keyL q nx err = kl at *
  clear h
  obtain ⟨k, st, key, val, num, at_, len⟩ := q
  dsimp only at hk
  subst hk
  have KX := Lib.hid K0.out
  unfold Opn.cs at *
  dsimp only at B0 K0 HT KX C
  go_enter Tryd.func7, Tryd.ntmps7
  go_wp2_with fail
  refine C.out.mono ?_
  rintro e w3 ⟨v, rfl, hN, hb⟩
  have N := Lib.hid (nd_mono hN B0.out.size); have B3 := Lib.hid (below_then B0.out hb B0.out.size)
  clear hN hb
  go_wp2
  go_ret
  exact ⟨v, rfl, by rw [L.out]; exact N.out, B3.out⟩
set_option maxRecDepth 100000 in
set_option maxHeartbeats 1000000 in
theorem needs_k17 (o q : Opn) (nx : ByteArray) (kv : Value) (ks : List ByteArray) (err : Int) (w : World) (h : Pk w o q kv ks) (hk : q.k = 17) :
    Calls Tryd.prog 7 #[pkv o nx kv err, .agg q.cs] w (NeedsPost (needsL q nx ks err) w) := by
  have B0 := Lib.hid ((Below.refl w.heap.size w).alloc (Nat.le_refl _) (.cells q.cs 23))
  have K0 := Lib.hid (Bk.new w 23 q.cs)
  have H := Lib.hid h
  have HT := Lib.hid (h.tab.below ((Below.refl _ _).alloc (Nat.le_refl _) (.cells q.cs 23)))
  unfold NeedsPost
  have L := Lib.hid (show needsL q nx ks err = rangeL q ks err by unfold needsL; simp [hk])
  have C := Lib.hid (rangeNeeds_any o q nx kv ks err (w.alloc (.cells q.cs 23)) HT.out ((h.keys.below B0.out (Nat.le_refl _)).mono B0.out.size) h.few h.st h.key h.num)
  unfold RangePost at C
  generalize needsL q nx ks err = nl at *
  generalize rangeL q ks err = kl at *
  clear h
  obtain ⟨k, st, key, val, num, at_, len⟩ := q
  dsimp only at hk
  subst hk
  have KX := Lib.hid K0.out
  unfold Opn.cs at *
  dsimp only at B0 K0 HT KX C
  go_enter Tryd.func7, Tryd.ntmps7
  go_wp2_with fail
  refine C.out.mono ?_
  rintro e w3 ⟨v, rfl, hN, hb⟩
  have N := Lib.hid (nd_mono hN B0.out.size); have B3 := Lib.hid (below_then B0.out hb B0.out.size)
  clear hN hb
  go_wp2
  go_ret
  exact ⟨v, rfl, by rw [L.out]; exact N.out, B3.out⟩
set_option maxRecDepth 100000 in
set_option maxHeartbeats 1000000 in
theorem needs_other (o q : Opn) (nx : ByteArray) (kv : Value) (ks : List ByteArray) (err : Int) (w : World) (h : Pk w o q kv ks) (hk : q.k ≠ 6 ∧ q.k ≠ 7 ∧ q.k ≠ 12 ∧ q.k ≠ 8 ∧ q.k ≠ 9 ∧ q.k ≠ 19 ∧ q.k ≠ 20 ∧ q.k ≠ 10 ∧ q.k ≠ 11 ∧ q.k ≠ 18 ∧ q.k ≠ 21 ∧ q.k ≠ 22 ∧ q.k ≠ 23 ∧ q.k ≠ 14 ∧ q.k ≠ 15 ∧ q.k ≠ 16 ∧ q.k ≠ 13 ∧ q.k ≠ 17) :
    Calls Tryd.prog 7 #[pkv o nx kv err, .agg q.cs] w (NeedsPost (needsL q nx ks err) w) := by
  have B0 := Lib.hid ((Below.refl w.heap.size w).alloc (Nat.le_refl _) (.cells q.cs 23))
  have K0 := Lib.hid (Bk.new w 23 q.cs)
  have H := Lib.hid h
  have HT := Lib.hid (h.tab.below ((Below.refl _ _).alloc (Nat.le_refl _) (.cells q.cs 23)))
  unfold NeedsPost
  obtain ⟨n6, n7, n12, n8, n9, n19, n20, n10, n11, n18, n21, n22, n23, n14, n15, n16, n13, n17⟩ := hk
  have L := Lib.hid (show needsL q nx ks err = [] by unfold needsL; simp [n6, n7, n12, n8, n9, n19, n20, n10, n11, n18, n21, n22, n23, n14, n15, n16, n13, n17])
  generalize needsL q nx ks err = nl at *
  clear h
  obtain ⟨k, st, key, val, num, at_, len⟩ := q
  dsimp only at n6 n7 n12 n8 n9 n19 n20 n10 n11 n18 n21 n22 n23 n14 n15 n16 n13 n17
  unfold Opn.cs at *
  dsimp only at B0 K0 HT
  have e6 : (k == 6) = false := by simp [n6]
  have e7 : (k == 7) = false := by simp [n7]
  have e12 : (k == 12) = false := by simp [n12]
  have e8 : (k == 8) = false := by simp [n8]
  have e9 : (k == 9) = false := by simp [n9]
  have e19 : (k == 19) = false := by simp [n19]
  have e20 : (k == 20) = false := by simp [n20]
  have e10 : (k == 10) = false := by simp [n10]
  have e11 : (k == 11) = false := by simp [n11]
  have e18 : (k == 18) = false := by simp [n18]
  have e21 : (k == 21) = false := by simp [n21]
  have e22 : (k == 22) = false := by simp [n22]
  have e23 : (k == 23) = false := by simp [n23]
  have e14 : (k == 14) = false := by simp [n14]
  have e15 : (k == 15) = false := by simp [n15]
  have e16 : (k == 16) = false := by simp [n16]
  have e13 : (k == 13) = false := by simp [n13]
  have e17 : (k == 17) = false := by simp [n17]
  clear n6 n7 n12 n8 n9 n19 n20 n10 n11 n18 n21 n22 n23 n14 n15 n16 n13 n17
  go_enter Tryd.func7, Tryd.ntmps7
  go_wp2
  go_ret
  exact ⟨_, rfl, by rw [L.out]; exact World.ownsRow_nil _ _ _ _, B0.out⟩
theorem needs_any (o q : Opn) (nx : ByteArray) (kv : Value) (ks : List ByteArray) (err : Int) (w : World) (h : Pk w o q kv ks) :
    Calls Tryd.prog 7 #[pkv o nx kv err, .agg q.cs] w (NeedsPost (needsL q nx ks err) w) := by
  by_cases n6 : q.k = 6
  · exact needs_k6 o q nx kv ks err w h n6
  by_cases n7 : q.k = 7
  · exact needs_k7 o q nx kv ks err w h n7
  by_cases n12 : q.k = 12
  · exact needs_k12 o q nx kv ks err w h n12
  by_cases n8 : q.k = 8
  · exact needs_k8 o q nx kv ks err w h n8
  by_cases n9 : q.k = 9
  · exact needs_k9 o q nx kv ks err w h n9
  by_cases n19 : q.k = 19
  · exact needs_k19 o q nx kv ks err w h n19
  by_cases n20 : q.k = 20
  · exact needs_k20 o q nx kv ks err w h n20
  by_cases n10 : q.k = 10
  · exact needs_k10 o q nx kv ks err w h n10
  by_cases n11 : q.k = 11
  · exact needs_k11 o q nx kv ks err w h n11
  by_cases n18 : q.k = 18
  · exact needs_k18 o q nx kv ks err w h n18
  by_cases n21 : q.k = 21
  · exact needs_k21 o q nx kv ks err w h n21
  by_cases n22 : q.k = 22
  · exact needs_k22 o q nx kv ks err w h n22
  by_cases n23 : q.k = 23
  · exact needs_k23 o q nx kv ks err w h n23
  by_cases n14 : q.k = 14
  · exact needs_k14 o q nx kv ks err w h n14
  by_cases n15 : q.k = 15
  · exact needs_k15 o q nx kv ks err w h n15
  by_cases n16 : q.k = 16
  · exact needs_k16 o q nx kv ks err w h n16
  by_cases n13 : q.k = 13
  · exact needs_k13 o q nx kv ks err w h n13
  by_cases n17 : q.k = 17
  · exact needs_k17 o q nx kv ks err w h n17
  exact needs_other o q nx kv ks err w h ⟨n6, n7, n12, n8, n9, n19, n20, n10, n11, n18, n21, n22, n23, n14, n15, n16, n13, n17⟩
end Go.Proofs.YtokghbppdmlfkaaDoor
