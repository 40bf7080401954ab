/- The document's own Needs, the kinds that it answers at once: 6, 7, 12. -/
import Derived.Test.YtokghbppdmlfkaaDoorPlnRTail
set_option linter.unusedVariables false
set_option linter.unusedSimpArgs false
namespace Go.Proofs.YtokghbppdmlfkaaDoor
open Go.RowKit

set_option maxRecDepth 100000 in
set_option maxHeartbeats 2000000 in
theorem rneeds_k6 (st num at_ len : Int) (key val nx : ByteArray) (kv : Value) (wr : Bool) (w : World) :
    Calls Tryd.prog 8 #[.agg #[.int .i64 6, .int .i64 st, .string key, .string val, .int .i64 num, .int .i64 at_, .int .i64 len], .string nx, kv, .bool wr] w (RefPost [nd0 6] w) := by
  have B0 := Lib.hid (show Below w.heap.size w ((w.alloc (.cells #[.int .i64 6, .int .i64 st, .string key, .string val, .int .i64 num, .int .i64 at_, .int .i64 len] 23)).alloc (.cells #[.int .i64 st, .string ⟨#[]⟩] 38)) from ((Below.refl w.heap.size w).alloc (Nat.le_refl _) _).alloc (by simp) _)
  have K0 := Lib.hid (show Bk ((w.alloc (.cells #[.int .i64 6, .int .i64 st, .string key, .string val, .int .i64 num, .int .i64 at_, .int .i64 len] 23)).alloc (.cells #[.int .i64 st, .string ⟨#[]⟩] 38)) w.heap.size 23 #[.int .i64 6, .int .i64 st, .string key, .string val, .int .i64 num, .int .i64 at_, .int .i64 len] from (Bk.new w _ _).alloc _)
  have S0 := Lib.hid (show Bk ((w.alloc (.cells #[.int .i64 6, .int .i64 st, .string key, .string val, .int .i64 num, .int .i64 at_, .int .i64 len] 23)).alloc (.cells #[.int .i64 st, .string ⟨#[]⟩] 38)) (w.heap.size + 1) 38 #[.int .i64 st, .string ⟨#[]⟩] from Bk.new2 w _ _ _)
  have CE := Lib.hid end_any
  unfold RefPost
  by_cases hnx : nx = ⟨#[]⟩
  · subst hnx
    go_enter Tryd.func8, Tryd.ntmps8
    go_wp2_with fail
    refine (CE.out _).mono ?_
    rintro e y ⟨rfl, hb⟩
    have B1 := Lib.hid (below_then B0.out hb B0.out.size)
    have k0 : y.cell? ⟨w.heap.size, 0, none⟩ = some (.int .i64 6) := (K0.out.kept hb).cell 0
    have s0 : y.cell? ⟨w.heap.size + 1, 0, none⟩ = some (.int .i64 st) := (S0.out.kept hb).cell 0
    have s1 : y.cell? ⟨w.heap.size + 1, 1, none⟩ = some (.string ⟨#[]⟩) := (S0.out.kept hb).cell 1
    have gl : w.heap.size + 1 < y.heap.size := (S0.out.kept hb).lt
    clear hb B0 K0 S0 CE
    have N1 := Lib.hid (World.ownsRow.alloc (nm_made y B1.out.size #[.int .i64 0, .string ⟨#[]⟩] [nd0 6] rfl rfl (by simp [maxLen])) (.cells #[.int .i64 6] 3))
    have M1 := Lib.hid (md_made (y.alloc (.cells #[.int .i64 0, .string ⟨#[]⟩] 38)) (B := w.heap.size) (by have := B1.out.size; simp at this ⊢; omega) #[.int .i64 6] [nd0 6] rfl rfl (by simp [maxLen]))
    have B2 := Lib.hid ((B1.out.alloc B1.out.size (.cells #[.int .i64 0, .string ⟨#[]⟩] 38)).alloc (by have := B1.out.size; simp at this ⊢; omega) (.cells #[.int .i64 6] 3))
    go_wp2
    go_ret2
    exact ⟨_, _, rfl, by simpa using N1.out, by simpa using M1.out, B2.out⟩
  · have hne2 : nx.toList ≠ [] := by
      intro e
      have h0 : (⟨#[]⟩ : ByteArray).toList = [] := by rw [ByteArray.toList_eq]
      have := str_ne hnx
      rw [e, h0] at this
      simp at this
    have hne : nx.toList.isEmpty = false := by simpa using hne2
    have hne3 : (nx.toList == []) = false := by simpa using hne2
    have N1 := Lib.hid (World.ownsRow.alloc (nm_made ((w.alloc (.cells #[.int .i64 6, .int .i64 st, .string key, .string val, .int .i64 num, .int .i64 at_, .int .i64 len] 23)).alloc (.cells #[.int .i64 st, .string ⟨#[]⟩] 38)) B0.out.size #[.int .i64 0, .string ⟨#[]⟩] [nd0 6] rfl rfl (by simp [maxLen])) (.cells #[.int .i64 6] 3))
    have M1 := Lib.hid (md_made (((w.alloc (.cells #[.int .i64 6, .int .i64 st, .string key, .string val, .int .i64 num, .int .i64 at_, .int .i64 len] 23)).alloc (.cells #[.int .i64 st, .string ⟨#[]⟩] 38)).alloc (.cells #[.int .i64 0, .string ⟨#[]⟩] 38)) (B := w.heap.size) (by have := B0.out.size; simp at this ⊢; omega) #[.int .i64 6] [nd0 6] rfl rfl (by simp [maxLen]))
    have B2 := Lib.hid ((B0.out.alloc B0.out.size (.cells #[.int .i64 0, .string ⟨#[]⟩] 38)).alloc (by have := B0.out.size; simp at this ⊢; omega) (.cells #[.int .i64 6] 3))
    clear CE K0 S0
    go_enter Tryd.func8, Tryd.ntmps8
    go_wp2
    go_ret2
    exact ⟨_, _, rfl, by simpa using N1.out, by simpa using M1.out, B2.out⟩

set_option maxRecDepth 100000 in
set_option maxHeartbeats 2000000 in
theorem rneeds_k7 (st num at_ len : Int) (key val nx : ByteArray) (kv : Value) (wr : Bool) (w : World) :
    Calls Tryd.prog 8 #[.agg #[.int .i64 7, .int .i64 st, .string key, .string val, .int .i64 num, .int .i64 at_, .int .i64 len], .string nx, kv, .bool wr] w (RefPost [nd0 2, ⟨st, ⟨#[]⟩, 6⟩] w) := by
  have B0 := Lib.hid (show Below w.heap.size w ((w.alloc (.cells #[.int .i64 7, .int .i64 st, .string key, .string val, .int .i64 num, .int .i64 at_, .int .i64 len] 23)).alloc (.cells #[.int .i64 st, .string ⟨#[]⟩] 38)) from ((Below.refl w.heap.size w).alloc (Nat.le_refl _) _).alloc (by simp) _)
  have K0 := Lib.hid (show Bk ((w.alloc (.cells #[.int .i64 7, .int .i64 st, .string key, .string val, .int .i64 num, .int .i64 at_, .int .i64 len] 23)).alloc (.cells #[.int .i64 st, .string ⟨#[]⟩] 38)) w.heap.size 23 #[.int .i64 7, .int .i64 st, .string key, .string val, .int .i64 num, .int .i64 at_, .int .i64 len] from (Bk.new w _ _).alloc _)
  have S0 := Lib.hid (show Bk ((w.alloc (.cells #[.int .i64 7, .int .i64 st, .string key, .string val, .int .i64 num, .int .i64 at_, .int .i64 len] 23)).alloc (.cells #[.int .i64 st, .string ⟨#[]⟩] 38)) (w.heap.size + 1) 38 #[.int .i64 st, .string ⟨#[]⟩] from Bk.new2 w _ _ _)
  have CE := Lib.hid end_any
  unfold RefPost
  by_cases hnx : nx = ⟨#[]⟩
  · subst hnx
    go_enter Tryd.func8, Tryd.ntmps8
    go_wp2_with fail
    refine (CE.out _).mono ?_
    rintro e y ⟨rfl, hb⟩
    have B1 := Lib.hid (below_then B0.out hb B0.out.size)
    have k0 : y.cell? ⟨w.heap.size, 0, none⟩ = some (.int .i64 7) := (K0.out.kept hb).cell 0
    have s0 : y.cell? ⟨w.heap.size + 1, 0, none⟩ = some (.int .i64 st) := (S0.out.kept hb).cell 0
    have s1 : y.cell? ⟨w.heap.size + 1, 1, none⟩ = some (.string ⟨#[]⟩) := (S0.out.kept hb).cell 1
    have gl : w.heap.size + 1 < y.heap.size := (S0.out.kept hb).lt
    clear hb B0 K0 S0 CE
    have N1 := Lib.hid (World.ownsRow.alloc (nm_made y B1.out.size #[.int .i64 0, .string ⟨#[]⟩, .int .i64 st, .string ⟨#[]⟩] [nd0 2, ⟨st, ⟨#[]⟩, 6⟩] rfl rfl (by simp [maxLen])) (.cells #[.int .i64 2, .int .i64 6] 3))
    have M1 := Lib.hid (md_made (y.alloc (.cells #[.int .i64 0, .string ⟨#[]⟩, .int .i64 st, .string ⟨#[]⟩] 38)) (B := w.heap.size) (by have := B1.out.size; simp at this ⊢; omega) #[.int .i64 2, .int .i64 6] [nd0 2, ⟨st, ⟨#[]⟩, 6⟩] rfl rfl (by simp [maxLen]))
    have B2 := Lib.hid ((B1.out.alloc B1.out.size (.cells #[.int .i64 0, .string ⟨#[]⟩, .int .i64 st, .string ⟨#[]⟩] 38)).alloc (by have := B1.out.size; simp at this ⊢; omega) (.cells #[.int .i64 2, .int .i64 6] 3))
    go_wp2
    go_ret2
    exact ⟨_, _, rfl, by simpa using N1.out, by simpa using M1.out, B2.out⟩
  · have hne2 : nx.toList ≠ [] := by
      intro e
      have h0 : (⟨#[]⟩ : ByteArray).toList = [] := by rw [ByteArray.toList_eq]
      have := str_ne hnx
      rw [e, h0] at this
      simp at this
    have hne : nx.toList.isEmpty = false := by simpa using hne2
    have hne3 : (nx.toList == []) = false := by simpa using hne2
    have N1 := Lib.hid (World.ownsRow.alloc (nm_made ((w.alloc (.cells #[.int .i64 7, .int .i64 st, .string key, .string val, .int .i64 num, .int .i64 at_, .int .i64 len] 23)).alloc (.cells #[.int .i64 st, .string ⟨#[]⟩] 38)) B0.out.size #[.int .i64 0, .string ⟨#[]⟩, .int .i64 st, .string ⟨#[]⟩] [nd0 2, ⟨st, ⟨#[]⟩, 6⟩] rfl rfl (by simp [maxLen])) (.cells #[.int .i64 2, .int .i64 6] 3))
    have M1 := Lib.hid (md_made (((w.alloc (.cells #[.int .i64 7, .int .i64 st, .string key, .string val, .int .i64 num, .int .i64 at_, .int .i64 len] 23)).alloc (.cells #[.int .i64 st, .string ⟨#[]⟩] 38)).alloc (.cells #[.int .i64 0, .string ⟨#[]⟩, .int .i64 st, .string ⟨#[]⟩] 38)) (B := w.heap.size) (by have := B0.out.size; simp at this ⊢; omega) #[.int .i64 2, .int .i64 6] [nd0 2, ⟨st, ⟨#[]⟩, 6⟩] rfl rfl (by simp [maxLen]))
    have B2 := Lib.hid ((B0.out.alloc B0.out.size (.cells #[.int .i64 0, .string ⟨#[]⟩, .int .i64 st, .string ⟨#[]⟩] 38)).alloc (by have := B0.out.size; simp at this ⊢; omega) (.cells #[.int .i64 2, .int .i64 6] 3))
    clear CE K0 S0
    go_enter Tryd.func8, Tryd.ntmps8
    go_wp2
    go_ret2
    exact ⟨_, _, rfl, by simpa using N1.out, by simpa using M1.out, B2.out⟩

set_option maxRecDepth 100000 in
set_option maxHeartbeats 2000000 in
theorem rneeds_k12 (st num at_ len : Int) (key val nx : ByteArray) (kv : Value) (wr : Bool) (w : World) :
    Calls Tryd.prog 8 #[.agg #[.int .i64 12, .int .i64 st, .string key, .string val, .int .i64 num, .int .i64 at_, .int .i64 len], .string nx, kv, .bool wr] w (RefPost [nd0 1, ⟨st, ⟨#[]⟩, 3⟩] w) := by
  have B0 := Lib.hid (show Below w.heap.size w ((w.alloc (.cells #[.int .i64 12, .int .i64 st, .string key, .string val, .int .i64 num, .int .i64 at_, .int .i64 len] 23)).alloc (.cells #[.int .i64 st, .string ⟨#[]⟩] 38)) from ((Below.refl w.heap.size w).alloc (Nat.le_refl _) _).alloc (by simp) _)
  have K0 := Lib.hid (show Bk ((w.alloc (.cells #[.int .i64 12, .int .i64 st, .string key, .string val, .int .i64 num, .int .i64 at_, .int .i64 len] 23)).alloc (.cells #[.int .i64 st, .string ⟨#[]⟩] 38)) w.heap.size 23 #[.int .i64 12, .int .i64 st, .string key, .string val, .int .i64 num, .int .i64 at_, .int .i64 len] from (Bk.new w _ _).alloc _)
  have S0 := Lib.hid (show Bk ((w.alloc (.cells #[.int .i64 12, .int .i64 st, .string key, .string val, .int .i64 num, .int .i64 at_, .int .i64 len] 23)).alloc (.cells #[.int .i64 st, .string ⟨#[]⟩] 38)) (w.heap.size + 1) 38 #[.int .i64 st, .string ⟨#[]⟩] from Bk.new2 w _ _ _)
  have CE := Lib.hid end_any
  unfold RefPost
  by_cases hnx : nx = ⟨#[]⟩
  · subst hnx
    go_enter Tryd.func8, Tryd.ntmps8
    go_wp2_with fail
    refine (CE.out _).mono ?_
    rintro e y ⟨rfl, hb⟩
    have B1 := Lib.hid (below_then B0.out hb B0.out.size)
    have k0 : y.cell? ⟨w.heap.size, 0, none⟩ = some (.int .i64 12) := (K0.out.kept hb).cell 0
    have s0 : y.cell? ⟨w.heap.size + 1, 0, none⟩ = some (.int .i64 st) := (S0.out.kept hb).cell 0
    have s1 : y.cell? ⟨w.heap.size + 1, 1, none⟩ = some (.string ⟨#[]⟩) := (S0.out.kept hb).cell 1
    have gl : w.heap.size + 1 < y.heap.size := (S0.out.kept hb).lt
    clear hb B0 K0 S0 CE
    have N1 := Lib.hid (World.ownsRow.alloc (nm_made y B1.out.size #[.int .i64 0, .string ⟨#[]⟩, .int .i64 st, .string ⟨#[]⟩] [nd0 1, ⟨st, ⟨#[]⟩, 3⟩] rfl rfl (by simp [maxLen])) (.cells #[.int .i64 1, .int .i64 3] 3))
    have M1 := Lib.hid (md_made (y.alloc (.cells #[.int .i64 0, .string ⟨#[]⟩, .int .i64 st, .string ⟨#[]⟩] 38)) (B := w.heap.size) (by have := B1.out.size; simp at this ⊢; omega) #[.int .i64 1, .int .i64 3] [nd0 1, ⟨st, ⟨#[]⟩, 3⟩] rfl rfl (by simp [maxLen]))
    have B2 := Lib.hid ((B1.out.alloc B1.out.size (.cells #[.int .i64 0, .string ⟨#[]⟩, .int .i64 st, .string ⟨#[]⟩] 38)).alloc (by have := B1.out.size; simp at this ⊢; omega) (.cells #[.int .i64 1, .int .i64 3] 3))
    go_wp2
    go_ret2
    exact ⟨_, _, rfl, by simpa using N1.out, by simpa using M1.out, B2.out⟩
  · have hne2 : nx.toList ≠ [] := by
      intro e
      have h0 : (⟨#[]⟩ : ByteArray).toList = [] := by rw [ByteArray.toList_eq]
      have := str_ne hnx
      rw [e, h0] at this
      simp at this
    have hne : nx.toList.isEmpty = false := by simpa using hne2
    have hne3 : (nx.toList == []) = false := by simpa using hne2
    have N1 := Lib.hid (World.ownsRow.alloc (nm_made ((w.alloc (.cells #[.int .i64 12, .int .i64 st, .string key, .string val, .int .i64 num, .int .i64 at_, .int .i64 len] 23)).alloc (.cells #[.int .i64 st, .string ⟨#[]⟩] 38)) B0.out.size #[.int .i64 0, .string ⟨#[]⟩, .int .i64 st, .string ⟨#[]⟩] [nd0 1, ⟨st, ⟨#[]⟩, 3⟩] rfl rfl (by simp [maxLen])) (.cells #[.int .i64 1, .int .i64 3] 3))
    have M1 := Lib.hid (md_made (((w.alloc (.cells #[.int .i64 12, .int .i64 st, .string key, .string val, .int .i64 num, .int .i64 at_, .int .i64 len] 23)).alloc (.cells #[.int .i64 st, .string ⟨#[]⟩] 38)).alloc (.cells #[.int .i64 0, .string ⟨#[]⟩, .int .i64 st, .string ⟨#[]⟩] 38)) (B := w.heap.size) (by have := B0.out.size; simp at this ⊢; omega) #[.int .i64 1, .int .i64 3] [nd0 1, ⟨st, ⟨#[]⟩, 3⟩] rfl rfl (by simp [maxLen]))
    have B2 := Lib.hid ((B0.out.alloc B0.out.size (.cells #[.int .i64 0, .string ⟨#[]⟩, .int .i64 st, .string ⟨#[]⟩] 38)).alloc (by have := B0.out.size; simp at this ⊢; omega) (.cells #[.int .i64 1, .int .i64 3] 3))
    clear CE K0 S0
    go_enter Tryd.func8, Tryd.ntmps8
    go_wp2
    go_ret2
    exact ⟨_, _, rfl, by simpa using N1.out, by simpa using M1.out, B2.out⟩

end Go.Proofs.YtokghbppdmlfkaaDoor
