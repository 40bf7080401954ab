/- A store found. -/
import Derived.Test.YtelbioooggnbiaaGreatSpcState
import Derived.Test.YtelbioooggnbiaaGreatOctRd2
import Derived.Test.YtelbioooggnbiaaGreatOctPlain2
import Derived.BigQuiet
set_option linter.unusedVariables false
set_option linter.unusedSimpArgs false
namespace Go.Proofs.YtelbioooggnbiaaGreat
open Go.RowKit

theorem num_back (n k : Nat) (R : ByteArray) (h1 : 1 ≤ k) (h2 : k ≤ 8) (h : n < 256 ^ k) : Oct.rnum (some (Oct.str n k ++ R)) k = (n, some R) := by
  have hsz := Oct.str_size n k
  have a := Oct.take_app (Oct.str n k) R
  have b := Oct.drop_app (Oct.str n k) R
  rw [hsz] at a b
  have e1 : Oct.rbytes (some (Oct.str n k ++ R)) k = (Oct.str n k, some R) := by
    simp only [Oct.rbytes]
    rw [if_neg (by rw [ByteArray.size_append]; omega), Int.toNat_natCast, a, b]
  have e2 : Oct.rnum (some (Oct.str n k ++ R)) k = (Oct.nval (Oct.rbytes (some (Oct.str n k ++ R)) k).1, (Oct.rbytes (some (Oct.str n k ++ R)) k).2) := by
    simp only [Oct.rnum]; rw [if_neg (by omega)]
  rw [e2, e1]
  simp only [Oct.nval, hsz]
  rw [if_pos ⟨h1, h2⟩, Oct.sval_str n k h]
/-- What a store's cell holds. -/
def stoD (kd rt : Nat) : ByteArray := Oct.str kd 1 ++ Oct.str rt 4
theorem stoD_size (kd rt : Nat) : (stoD kd rt).size = 5 := by unfold stoD; rw [ByteArray.size_append, Oct.str_size, Oct.str_size]
theorem stoD_kind (kd rt : Nat) (h : kd < 256) : Oct.rnum (some (stoD kd rt)) 1 = (kd, some (Oct.str rt 4)) := num_back kd 1 _ (by omega) (by omega) (by omega)
theorem stoD_root (rt : Nat) (h : rt < 1024) : Oct.rnum (some (Oct.str rt 4)) 4 = (rt, some ⟨#[]⟩) := by
  have := num_back rt 4 ⟨#[]⟩ (by omega) (by omega) (by omega)
  rw [show Oct.str rt 4 ++ (⟨#[]⟩ : ByteArray) = Oct.str rt 4 from Oct.app_nil _] at this
  exact this
/-- A sound directory: what its cells that aren't free hold. -/
structure DirOk (p : Pg) (kd rt : Nat → Nat) : Prop where
  k : p.k = 1
  ok : p.ok
  d : ∀ i, i < 6 → (p.c i).st ≠ 0 → (p.c i).d = stoD (kd i) (rt i) ∧ kd i < 256 ∧ rt i < 1024
def FindPost (w : World) (p : Pg) (kd rt : Nat → Nat) (s : Int) (e : Ending) (w' : World) : Prop :=
  (¬ thereP p s ∧ e = .returned (.tuple #[.int .i64 0, .int .i64 0, .int .i64 0, .int .i64 190]) ∧ Below w.heap.size w w') ∨
  (thereP p s ∧ e = .returned (.tuple #[.int .i64 (kd (s - 1).toNat), .int .i64 (rt (s - 1).toNat), .int .i64 (p.c (s - 1).toNat).st, .int .i64 0]) ∧ Below w.heap.size w w')
open Classical in
set_option maxRecDepth 100000 in
set_option maxHeartbeats 4000000 in
theorem find_good {w : World} {B g b gs r N M : Nat} {und pg : Nat → Pg} (h : SV w B g b gs r N M und pg) (kd rt : Nat → Nat) (hd : DirOk (pg 0) kd rt) (s : Int) :
    Calls Tryz.prog 31 #[.pointer (some ⟨g, 0, none⟩), .int .i64 s] w (FindPost w (pg 0) kd rt s) := by
  have CC := Lib.hid (directory_good h hd.k)
  obtain ⟨p, hp⟩ : ∃ p, p = pg 0 := ⟨_, rfl⟩
  rw [← hp] at CC hd ⊢
  have DO := Lib.hid hd
  have NO := Lib.hid (fun (w' : World) (ha : ¬ thereP p s) (hb : Below w.heap.size w w') => show FindPost w p kd rt s (.returned (.tuple #[.int .i64 0, .int .i64 0, .int .i64 0, .int .i64 190])) w' from .inl ⟨ha, rfl, hb⟩)
  have YES := Lib.hid (fun (w' : World) (j : Nat) (st : Int) (hj : s - 1 = (j : Int)) (hst : st = (p.c j).st) (ha : thereP p s) (hb : Below w.heap.size w w') => show FindPost w p kd rt s (.returned (.tuple #[.int .i64 (kd j), .int .i64 (rt j), .int .i64 st, .int .i64 0])) w' from .inr ⟨ha, by rw [hj, Int.toNat_natCast, hst], hb⟩)
  have CT := Lib.hid (fun (w' : World) => there_any p s w')
  clear h hp hd
  go_enter Tryz.func31, Tryz.ntmps31
  go_wp2_with fail
  refine CC.out.mono ?_
  rintro e w1 ⟨rfl, hb⟩
  have hbb := hb.alloc hb.size (.cells p.cs 38)
  have K2 := Lib.hid (Bk.new w1 38 p.cs)
  have B2 := Lib.hid hbb
  obtain ⟨G4, hG4⟩ : ∃ G4, G4 = w1.heap.size := ⟨_, rfl⟩
  rw [← hG4] at K2
  clear hb hbb CC
  dsimp only
  go_upto_region 4 with (refine store_page_new rfl _ _ rfl p rfl rfl ?_; rw [← hG4]; clear hG4; generalize w1.alloc (.cells p.cs 38) = w2 at *)
  go_wp2_with (refine load_page rfl _ rfl G4 p rfl K2.out ?_)
  refine (CT.out _).mono ?_
  rintro e w3 ⟨rfl, hb⟩
  have K3 := Lib.hid (K2.out.kept hb)
  have B3 := Lib.hid (below_then B2.out hb B2.out.size)
  clear hb CT K2 B2
  by_cases ht : thereP p s
  · rw [decide_eq_true ht]
    have J := Lib.hid ht
    obtain ⟨j, hj⟩ : ∃ j : Nat, s = j + 1 := ⟨(s - 1).toNat, by have := ht.1; omega⟩
    have hj6 : j < 6 := by have := ht.2.1; omega
    have hsj : s - 1 = (j : Int) := by omega
    have hji : (j : Int) < 6 := by omega
    have hs0 : (p.c j).st ≠ 0 := by have := ht.2.2; rw [hsj, Int.toNat_natCast] at this; exact this
    obtain ⟨hdj, hk1, hr1⟩ := DO.out.d j hj6 hs0
    obtain ⟨st, hst⟩ : ∃ st, st = (p.c j).st := ⟨_, rfl⟩
    have HST := Lib.hid hst
    obtain ⟨D, hD⟩ : ∃ D, D = stoD (kd j) (rt j) := ⟨_, rfl⟩
    have HDS := Lib.hid (show D.size = 5 by rw [hD]; exact stoD_size _ _)
    rw [← hD] at hdj
    have N1 := Lib.hid (show Oct.rnum (some D) 1 = (kd j, some (Oct.str (rt j) 4)) by rw [hD]; exact stoD_kind _ _ hk1)
    have N2 := Lib.hid (stoD_root (rt j) hr1)
    have Y := Lib.hid (fun (w' : World) (hb : Below w.heap.size w w') => YES.out w' j st hsj hst ht hb)
    have c0 : w3.cell? ⟨G4, 4 + j * 2, none⟩ = some (.int .i64 st) := by
      rw [K3.out.cell, hst]; rcases six hj6 with h | h | h | h | h | h <;> rw [h] <;> rfl
    have c1 : w3.cell? ⟨G4, 4 + j * 2 + 1, none⟩ = some (.string D) := by
      rw [K3.out.cell, ← hdj]; rcases six hj6 with h | h | h | h | h | h <;> rw [h] <;> rfl
    have W1 := Lib.hid (show wrap64 ((kd j : Nat) : Int) = (kd j : Int) by unfold wrap64; omega)
    have W2 := Lib.hid (show wrap64 ((rt j : Nat) : Int) = (rt j : Int) by unfold wrap64; omega)
    clear hj ht hs0 hdj hk1 hr1 hst hD YES NO
    have hds : ((D.size : Int) != 5) = false := by rw [HDS.out]; rfl
    have E4 := Lib.hid (Bk.new w3 35 #[.int .i64 st, .string D])
    have B4 := Lib.hid (B3.out.alloc B3.out.size (.cells #[.int .i64 st, .string D] 35))
    obtain ⟨G5, hG5⟩ : ∃ G5, G5 = w3.heap.size := ⟨_, rfl⟩
    rw [← hG5] at E4
    have GL5 := Lib.hid (show G5 < (w3.alloc (.cells #[.int .i64 st, .string D] 35)).heap.size by rw [hG5]; simp)
    have HG5 := Lib.hid hG5
    clear hG5
    go_upto_region 7 with fail
    rw [← HG5.out]
    generalize w3.alloc (.cells #[.int .i64 st, .string D] 35) = w4 at *
    clear HG5 c0 c1 K3 B3
    have d0 : w4.cell? ⟨G5, 0, none⟩ = some (.int .i64 st) := by rw [E4.out.cell]; rfl
    have d1 : w4.cell? ⟨G5, 1, none⟩ = some (.string D) := by rw [E4.out.cell]; rfl
    go_wp2_with fail
    refine (rd_read D w4).mono ?_
    rintro e w5 ⟨rfl, hr, hb, hl⟩
    have E5 := Lib.hid (E4.out.kept hb)
    have B5 := Lib.hid (below_then B4.out hb B4.out.size)
    have R5 := Lib.hid hr
    obtain ⟨R, hR⟩ : ∃ R, R = w4.heap.size := ⟨_, rfl⟩
    rw [← hR] at R5 ⊢
    have NE := Lib.hid (show G5 ≠ R by have := GL5.out; omega)
    have RL := Lib.hid (show w.heap.size ≤ R by rw [hR]; exact B4.out.size)
    clear hr hb hl hR d0 d1 E4 B4
    go_wp2_with fail
    refine (rd_num R 1 (some D) w5 R5.out (by show D.size ≤ _; rw [HDS.out]; decide)).mono ?_
    rw [N1.out]
    rintro e w6 ⟨rfl, hr, hg⟩
    have E6 := Lib.hid (E5.out.grown hg (fun e => by injection e with e; exact NE.out e))
    have B6 := Lib.hid (bl_grow B5.out hg (fun k hk => by cases hk; exact RL.out) B5.out.size)
    have R6 := Lib.hid hr
    clear hr hg E5 B5 R5
    have hw1 : wrap64 ((kd j : Nat) : Int) = (kd j : Int) := W1.out
    go_wp2_with fail
    refine (rd_num R 4 (some (Oct.str (rt j) 4)) w6 R6.out (by show (Oct.str (rt j) 4).size ≤ _; rw [Oct.str_size]; decide)).mono ?_
    rw [N2.out]
    rintro e w7 ⟨rfl, hr, hg⟩
    have E7 := Lib.hid (E6.out.grown hg (fun e => by injection e with e; exact NE.out e))
    have B7 := Lib.hid (bl_grow B6.out hg (fun k hk => by cases hk; exact RL.out) B6.out.size)
    clear hr hg E6 B6 R6
    have Y7 := Lib.hid (fun n => Y.out (w7.drewN n) (Oct.below_drewN B7.out n))
    have hw2 : wrap64 ((rt j : Nat) : Int) = (rt j : Int) := W2.out
    have d0 : w7.cell? ⟨G5, 0, none⟩ = some (.int .i64 st) := by rw [E7.out.cell]; rfl
    go_upto_region 11 with fail
    go_quiet (fail)
    go_wp2
    refine bodyPost_ret (v := .tuple #[.int .i64 (kd j), .int .i64 (rt j), .int .i64 st, .int .i64 0]) (by simp [results, Tryz.results31, go_sem, W2.out]) rfl ?_
    exact Y7.out _
  · rw [decide_eq_false ht]
    have Y := Lib.hid (NO.out w3 ht B3.out)
    go_wp2
    refine bodyPost_ret (v := .tuple #[.int .i64 0, .int .i64 0, .int .i64 0, .int .i64 190]) (by simp [results, Tryz.results31, go_sem]) rfl ?_
    exact Y.out
end Go.Proofs.YtelbioooggnbiaaGreat
