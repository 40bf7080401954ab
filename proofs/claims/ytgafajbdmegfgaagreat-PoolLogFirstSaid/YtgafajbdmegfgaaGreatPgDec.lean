/- The walk of package page: Decode. The walk of package page: Decode (written by wip/tools/genpgdec.py). Decode, whatever the bytes. -/
import Derived.Test.YtgafajbdmegfgaaGreatPgDecPlain
import Derived.WalkMore
import Derived.ScopeJumps
import Derived.Laws.Rows
import Derived.Laws.ResultCell
import Derived.Deep.QuietTactic
import Derived.BigQuiet
import Derived.Laws.Tables
import Derived.Laws.CopyOwn
set_option linter.unusedVariables false
set_option linter.unusedSimpArgs false
namespace Go.Proofs.YtgafajbdmegfgaaGreat
open Go.RowKit

theorem rnum_at (s : ByteArray) (a k b : Nat) (hs : s.size = 224) (h1 : 1 ≤ k) (h2 : k ≤ 8) (hb : b = a + k) (h : b ≤ 224) : Oct.rnum (some (s.extract a 224)) (k : Int) = (Oct.sval (s.extract a b), some (s.extract b 224)) := by
  subst hb
  have hz : (s.extract a 224).size = 224 - a := ex_size _ _ _ (by omega)
  have hr : Oct.rbytes (some (s.extract a 224)) (k : Int) = (s.extract a (a + k), some (s.extract (a + k) 224)) := by
    simp only [Oct.rbytes]
    rw [if_neg (by rw [hz]; omega), hz]
    simp only [Int.toNat_natCast]
    rw [ex_ex _ _ _ _ _ (by omega), ex_ex _ _ _ _ _ (by omega)]
    simp only [Nat.add_zero]
    rw [show a + (224 - a) = 224 by omega]
  simp only [Oct.rnum]
  rw [if_neg (by omega), hr]
  simp only [Oct.nval]
  rw [if_pos (by rw [ex_size _ _ _ (by omega)]; omega)]
theorem rbytes_at (s : ByteArray) (a k b : Nat) (hs : s.size = 224) (hb : b = a + k) (h : b ≤ 224) : Oct.rbytes (some (s.extract a 224)) (k : Int) = (s.extract a b, some (s.extract b 224)) := by
  subst hb
  have hz : (s.extract a 224).size = 224 - a := ex_size _ _ _ (by omega)
  simp only [Oct.rbytes]
  rw [if_neg (by rw [hz]; omega), hz]
  simp only [Int.toNat_natCast]
  rw [ex_ex _ _ _ _ _ (by omega), ex_ex _ _ _ _ _ (by omega)]
  simp only [Nat.add_zero]
  rw [show a + (224 - a) = 224 by omega]
theorem num_at (s : ByteArray) (a k b : Nat) (n : Int) (hn : n = k) (hs : s.size = 224) (h1 : 1 ≤ k) (h2 : k ≤ 8) (hb : b = a + k) (h : b ≤ 224) (g : Nat) (wx : World) (hr : RdSt wx g (some (s.extract a 224))) :
    Calls Tryz.prog 61 #[.pointer (some ⟨g, 0, none⟩), .int .i64 n] wx fun e w' => e = .returned (.int .u64 (Oct.sval (s.extract a b) : Nat)) ∧ RdSt w' g (some (s.extract b 224)) ∧ wx.grownBy w' (some g) := by
  subst hn
  have c := rd_num g (k : Int) _ wx hr (by show (s.extract a 224).size ≤ maxLen; rw [ex_size _ _ _ (by omega)]; unfold maxLen; omega)
  rw [rnum_at s a k b hs h1 h2 hb h] at c
  exact c
theorem bytes_at (s : ByteArray) (a k b : Nat) (n : Int) (hn : n = k) (hs : s.size = 224) (hb : b = a + k) (h : b ≤ 224) (g : Nat) (wx : World) (hr : RdSt wx g (some (s.extract a 224))) :
    Calls Tryz.prog 62 #[.pointer (some ⟨g, 0, none⟩), .int .i64 n] wx fun e w' => e = .returned (.string (s.extract a b)) ∧ RdSt w' g (some (s.extract b 224)) ∧ wx.grownBy w' (some g) := by
  subst hn
  have c := rd_bytes g (k : Int) _ wx hr (by show (s.extract a 224).size ≤ maxLen; rw [ex_size _ _ _ (by omega)]; unfold maxLen; omega)
  rw [rbytes_at s a k b hs hb h] at c
  exact c
/-- The page while it is read: j cells stand. -/
def part (s : ByteArray) (j : Nat) : Pg := { Pg.of s with c := fun i => if i < j then Ce.of (cellAt s i) else ⟨0, ⟨#[]⟩⟩ }
theorem part_last (s : ByteArray) : (part s 6).cs = (Pg.of s).cs := Pg.cs_eq ⟨rfl, rfl, rfl, rfl, fun i hi => by simp [part, hi, Pg.of]⟩
theorem cell_ex (s : ByteArray) (j a b : Nat) (hb : b ≤ 36) : (cellAt s j).extract a b = s.extract (8 + 36 * j + a) (8 + 36 * j + b) := by
  unfold cellAt; exact ex_ex _ _ _ _ _ (by omega)
theorem cnum1 (s : ByteArray) (j : Nat) (hs : s.size = 224) (hj : j < 6) (g : Nat) (wx : World) (hr : RdSt wx g (some (s.extract (8 + 36 * j) 224))) :
    Calls Tryz.prog 61 #[.pointer (some ⟨g, 0, none⟩), .int .i64 1] wx fun e w' => e = .returned (.int .u64 (Oct.sval ((cellAt s j).extract 0 1) : Nat)) ∧ RdSt w' g (some (s.extract (8 + 36 * j + 1) 224)) ∧ wx.grownBy w' (some g) := by
  rw [cell_ex s j 0 1 (by omega)]
  exact num_at s (8 + 36 * j) 1 (8 + 36 * j + 1) 1 rfl hs (by omega) (by omega) rfl (by omega) g wx hr
theorem cnum2 (s : ByteArray) (j : Nat) (hs : s.size = 224) (hj : j < 6) (g : Nat) (wx : World) (hr : RdSt wx g (some (s.extract (8 + 36 * j + 1) 224))) :
    Calls Tryz.prog 61 #[.pointer (some ⟨g, 0, none⟩), .int .i64 1] wx fun e w' => e = .returned (.int .u64 (Oct.sval ((cellAt s j).extract 1 2) : Nat)) ∧ RdSt w' g (some (s.extract (8 + 36 * j + 2) 224)) ∧ wx.grownBy w' (some g) := by
  rw [cell_ex s j 1 2 (by omega)]
  exact num_at s (8 + 36 * j + 1) 1 (8 + 36 * j + 2) 1 rfl hs (by omega) (by omega) rfl (by omega) g wx hr
theorem cbytes (s : ByteArray) (j : Nat) (hs : s.size = 224) (hj : j < 6) (g : Nat) (wx : World) (hr : RdSt wx g (some (s.extract (8 + 36 * j + 2) 224))) :
    Calls Tryz.prog 62 #[.pointer (some ⟨g, 0, none⟩), .int .i64 34] wx fun e w' => e = .returned (.string ((cellAt s j).extract 2 36)) ∧ RdSt w' g (some (s.extract (8 + 36 * (j + 1)) 224)) ∧ wx.grownBy w' (some g) := by
  rw [cell_ex s j 2 36 (by omega)]
  exact bytes_at s (8 + 36 * j + 2) 34 (8 + 36 * j + 36) 34 rfl hs (by omega) (by omega) g wx hr
theorem cell_facts (s : ByteArray) (j : Nat) (hs : s.size = 224) (hj : j < 6) : Oct.sval ((cellAt s j).extract 0 1) < 256 ∧ Oct.sval ((cellAt s j).extract 1 2) < 256 ∧ ((cellAt s j).extract 2 36).size = 34 := by
  have hc := cellAt_size s hs j hj
  exact ⟨sval1_lt _ (by rw [ex_size _ _ _ (by omega)]), sval1_lt _ (by rw [ex_size _ _ _ (by omega)]), by rw [ex_size _ _ _ (by omega)]⟩
theorem part_next (s : ByteArray) (j : Nat) (hj : j < 6) : ((part s j).cs.setIfInBounds (4 + j * 2) (.int .i64 (Oct.sval ((cellAt s j).extract 0 1) : Nat))).setIfInBounds (4 + j * 2 + 1) (.string (((cellAt s j).extract 2 36).extract 0 (Oct.sval ((cellAt s j).extract 1 2)))) = (part s (j + 1)).cs := by
  have h1 : ∀ i, (part s j).c i = if i < j then Ce.of (cellAt s i) else ⟨0, ⟨#[]⟩⟩ := fun i => rfl
  have h2 : ∀ i, (part s (j + 1)).c i = if i < j + 1 then Ce.of (cellAt s i) else ⟨0, ⟨#[]⟩⟩ := fun i => rfl
  have h3 : (Ce.of (cellAt s j)).st = (Oct.sval ((cellAt s j).extract 0 1) : Nat) := rfl
  have h4 : (Ce.of (cellAt s j)).d = ((cellAt s j).extract 2 36).extract 0 (Oct.sval ((cellAt s j).extract 1 2)) := rfl
  have k1 : (part s (j + 1)).k = (part s j).k ∧ (part s (j + 1)).l = (part s j).l ∧ (part s (j + 1)).s = (part s j).s ∧ (part s (j + 1)).n = (part s j).n := ⟨rfl, rfl, rfl, rfl⟩
  rw [← h3, ← h4]
  unfold Pg.cs
  rw [k1.1, k1.2.1, k1.2.2.1, k1.2.2.2]
  simp only [h1, h2]
  generalize (part s j).k = a
  generalize (part s j).l = b
  generalize (part s j).s = c
  generalize (part s j).n = d
  rcases six hj with rfl | rfl | rfl | rfl | rfl | rfl <;> simp
structure Dc (w0 w : World) (gz gp g : Nat) (s : ByteArray) (j : Nat) : Prop where
  rd : RdSt w g (some (s.extract (8 + 36 * j) 224))
  pg : Bk w gp 41 (part s j).cs
  rz : Bk w gz 41 Pg.zero.cs
  bel : Below w0.heap.size w0 w
  hz : w0.heap.size ≤ gz
  hp : gz < gp
  hg : gp < g

end Go.Proofs.YtgafajbdmegfgaaGreat
namespace Go.Proofs.YtgafajbdmegfgaaGreat
open Go.RowKit

def intAt6 (a : Act) : Nat := match a.tmps.getD 6 undef with | .int _ q => q.toNat | _ => 0
def CellOk (s : ByteArray) (i : Nat) : Prop := Oct.sval ((cellAt s i).extract 1 2) ≤ 34 ∧ ((cellAt s i).extract 2 36).extract (Oct.sval ((cellAt s i).extract 1 2)) 34 = Fr.zs (34 - Oct.sval ((cellAt s i).extract 1 2))
theorem dec_good (s : ByteArray) (hs : s.size = 224) (h : ∀ i, i < 6 → CellOk s i) (hk : (part s 6).ok) : Pg.dec s = Pg.of s ∧ decErr s = 0 := by
  have hg : Good s := (good_cells s hs).2 ⟨h, Pg.ok_same (p := part s 6) ⟨rfl, rfl, rfl, rfl, fun i hi => by simp [part, hi, Pg.of]⟩ hk⟩
  exact ⟨if_pos hg, if_pos hg⟩
theorem dec_bad (s : ByteArray) (h : ¬ Good s) : Pg.dec s = Pg.zero ∧ decErr s = 40 := ⟨if_neg h, if_neg h⟩
theorem not_good_cell (s : ByteArray) (hs : s.size = 224) (i : Nat) (hi : i < 6) (h : ¬ CellOk s i) : ¬ Good s := fun hg => h (((good_cells s hs).1 hg).1 i hi)
theorem not_good_ok (s : ByteArray) (hs : s.size = 224) (hk : ¬ (part s 6).ok) : ¬ Good s := fun hg => hk (Pg.ok_same (p := Pg.of s) ⟨rfl, rfl, rfl, rfl, fun i hi => by simp [part, hi, Pg.of]⟩ hg.2.1)
theorem dec_results (tmps : Array Value) (w : World) (g : Nat) (cs : Array Value) (h : Bk w g 41 cs) (hs : cs.size = 16) (hp : tmps.getD 2 undef = .pointer (some ⟨g, 0, none⟩)) :
    (results Tryz.f51 tmps).run Tryz.prog w = .ok (.tuple #[.agg cs, tmps.getD 3 undef]) w := by
  rw [results_cell_tmp (p := 2) (u := 3) (ty := 41) rfl, hp]
  have := run_loadPage w g cs h hs
  simp [asAddr, Sem.run_pure, Result.andThen, this]

set_option maxRecDepth 100000 in
set_option maxHeartbeats 16000000 in
theorem decode_long (s : ByteArray) (w : World) (hs : s.size = 224) :
    Calls Tryz.prog 51 #[.string s] w fun e w' => e = .returned (.tuple #[(Pg.dec s).v, .int .i64 (decErr s)]) ∧ Below w.heap.size w w' := by
  have hs64 : (s.size : Int) = 224 := by omega
  go_enter Tryz.func51, Tryz.ntmps51
  go_wp2
  refine wp_scope_jumps 0 (fun a' w' => ∃ (gz gp g j : Nat), a' = { tmps := #[.string s, a'.tmps.getD 1 undef, .pointer (some ⟨gz, 0, none⟩), .int .i64 0, .pointer (some ⟨gp, 0, none⟩), .pointer (some ⟨g, 0, none⟩), .int .i64 j, a'.tmps.getD 7 undef, a'.tmps.getD 8 undef, a'.tmps.getD 9 undef, a'.tmps.getD 10 undef, a'.tmps.getD 11 undef, a'.tmps.getD 12 undef, a'.tmps.getD 13 undef, a'.tmps.getD 14 undef, a'.tmps.getD 15 undef, a'.tmps.getD 16 undef, a'.tmps.getD 17 undef, a'.tmps.getD 18 undef, a'.tmps.getD 19 undef, a'.tmps.getD 20 undef, a'.tmps.getD 21 undef, a'.tmps.getD 22 undef, a'.tmps.getD 23 undef, a'.tmps.getD 24 undef, a'.tmps.getD 25 undef, a'.tmps.getD 26 undef, a'.tmps.getD 27 undef, a'.tmps.getD 28 undef, a'.tmps.getD 29 undef, a'.tmps.getD 30 undef, a'.tmps.getD 31 undef, a'.tmps.getD 32 undef, a'.tmps.getD 33 undef, a'.tmps.getD 34 undef, a'.tmps.getD 35 undef, a'.tmps.getD 36 undef, a'.tmps.getD 37 undef, a'.tmps.getD 38 undef, a'.tmps.getD 39 undef, a'.tmps.getD 40 undef, a'.tmps.getD 41 undef, a'.tmps.getD 42 undef, a'.tmps.getD 43 undef, a'.tmps.getD 44 undef, a'.tmps.getD 45 undef, a'.tmps.getD 46 undef, a'.tmps.getD 47 undef, a'.tmps.getD 48 undef, a'.tmps.getD 49 undef, a'.tmps.getD 50 undef, a'.tmps.getD 51 undef, a'.tmps.getD 52 undef, a'.tmps.getD 53 undef, a'.tmps.getD 54 undef, a'.tmps.getD 55 undef, a'.tmps.getD 56 undef, a'.tmps.getD 57 undef, a'.tmps.getD 58 undef, a'.tmps.getD 59 undef, a'.tmps.getD 60 undef, a'.tmps.getD 61 undef, a'.tmps.getD 62 undef, a'.tmps.getD 63 undef, a'.tmps.getD 64 undef, a'.tmps.getD 65 undef, a'.tmps.getD 66 undef, a'.tmps.getD 67 undef], defers := [] } ∧ j < 6 ∧ (∀ i, i < j → CellOk s i) ∧ Dc w w' gz gp g s j) (fun a' _ => 6 - intAt6 a') rfl ?_ ?_
  · go_wp2_with fail
    refine (rd_read s _).mono ?_
    rintro e w4 ⟨rfl, hr4, hb4, hlt4⟩
    have kz4 : Bk w4 w.heap.size 41 Pg.zero.cs := ((Bk.new w 41 Pg.zero.cs).alloc (.cells Pg.zero.cs 41)).kept hb4
    have kp4 : Bk w4 (w.heap.size + 1) 41 Pg.zero.cs := (Bk.new2 w (.cells Pg.zero.cs 41) 41 Pg.zero.cs).kept hb4
    have kb4 : Below w.heap.size w w4 := below_then (((Below.refl _ _).alloc (Nat.le_refl _) (.cells Pg.zero.cs 41)).alloc (by simp) (.cells Pg.zero.cs 41)) hb4 (by simp; omega)
    have kr4 : RdSt w4 (w.heap.size + 1 + 1) (some (s.extract 0 224)) := by
      rw [← hs, ex_all]
      have e2 : ((w.alloc (.cells Pg.zero.cs 41)).alloc (.cells Pg.zero.cs 41)).heap.size = w.heap.size + 1 + 1 := by simp
      rw [← e2]
      exact hr4
    have KZ4 := Lib.hid kz4; have KP4 := Lib.hid kp4; have KB4 := Lib.hid kb4; have KR4 := Lib.hid kr4
    clear kz4 kp4 kb4 kr4 hr4 hb4 hlt4
    have h01 := sval1_lt (s.extract 0 1) (by rw [ex_size _ _ _ (by omega)])
    have h12 := sval1_lt (s.extract 1 2) (by rw [ex_size _ _ _ (by omega)])
    have h24 : Oct.sval (s.extract 2 4) < 65536 := by have := Oct.sval_lt (s.extract 2 4); rw [ex_size _ _ _ (by omega)] at this; exact this
    have h48 : Oct.sval (s.extract 4 8) < 4294967296 := by have := Oct.sval_lt (s.extract 4 8); rw [ex_size _ _ _ (by omega)] at this; exact this
    have c1 := num_at s 0 1 1 1 rfl hs (by omega) (by omega) (by omega) (by omega) (w.heap.size + 1 + 1)
    have c2 := num_at s 1 1 2 1 rfl hs (by omega) (by omega) (by omega) (by omega) (w.heap.size + 1 + 1)
    have c3 := num_at s 2 2 4 2 rfl hs (by omega) (by omega) (by omega) (by omega) (w.heap.size + 1 + 1)
    have c4 := num_at s 4 4 8 4 rfl hs (by omega) (by omega) (by omega) (by omega) (w.heap.size + 1 + 1)
    have ps : ((((Pg.zero.cs.setIfInBounds 0 (.int .i64 (Oct.sval (s.extract 0 1) : Nat))).setIfInBounds 1 (.int .i64 (Oct.sval (s.extract 1 2) : Nat))).setIfInBounds 2 (.int .i64 (Oct.sval (s.extract 2 4) : Nat))).setIfInBounds 3 (.int .i64 (Oct.sval (s.extract 4 8) : Nat))) = (part s 0).cs := rfl
    generalize Oct.sval (s.extract 0 1) = n1 at h01 c1 ps
    generalize Oct.sval (s.extract 1 2) = n2 at h12 c2 ps
    generalize Oct.sval (s.extract 2 4) = n3 at h24 c3 ps
    generalize Oct.sval (s.extract 4 8) = n4 at h48 c4 ps
    have C1 := Lib.hid c1; have C2 := Lib.hid c2; have C3 := Lib.hid c3; have C4 := Lib.hid c4; have PS := Lib.hid ps
    clear c1 c2 c3 c4 ps
    go_wp2_with fail
    refine (C1.out _ KR4.out).mono ?_
    rintro e v1 ⟨rfl, hr1, hg1⟩
    have HR1 := Lib.hid hr1; have HG1 := Lib.hid hg1; clear hr1 hg1
    go_wp2_with fail
    refine (C2.out _ HR1.out).mono ?_
    rintro e v2 ⟨rfl, hr2, hg2⟩
    have hG := only_trans HG1.out hg2
    have kp := KP4.out.grown hG (by intro e; have := Option.some.inj e; omega)
    have kz := KZ4.out.grown hG (by intro e; have := Option.some.inj e; omega)
    have kb := KB4.out.grown hG (by have := KB4.out.size; exact this) (by intro q hq; cases hq; omega)
    have y0 := kp.cell 0; have y1 := kp.cell 1; have f0 := kp.fz 0; have f1 := kp.fz 1
    simp only [Pg.cs, List.getElem?_toArray, List.getElem?_cons_zero, List.getElem?_cons_succ] at y0 y1
    have kp2 := (kp.set 0 (.int .i64 n1)).set 1 (.int .i64 n2)
    have kz2 := (kz.far (p := ⟨w.heap.size + 1, 0, none⟩) (by show w.heap.size ≠ w.heap.size + 1; omega) (.int .i64 n1)).far (p := ⟨w.heap.size + 1, 1, none⟩) (by show w.heap.size ≠ w.heap.size + 1; omega) (.int .i64 n2)
    have kr2 : RdSt ((v2.setCell ⟨w.heap.size + 1, 0, none⟩ (.int .i64 n1)).setCell ⟨w.heap.size + 1, 1, none⟩ (.int .i64 n2)) (w.heap.size + 1 + 1) (some (s.extract 2 224)) := (Bk.far (t := 141) hr2 (p := ⟨w.heap.size + 1, 0, none⟩) (by show w.heap.size + 1 + 1 ≠ w.heap.size + 1; omega) (.int .i64 n1)).far (p := ⟨w.heap.size + 1, 1, none⟩) (by show w.heap.size + 1 + 1 ≠ w.heap.size + 1; omega) (.int .i64 n2)
    have kb2 := (kb.setCell (p := ⟨w.heap.size + 1, 0, none⟩) (by show w.heap.size ≤ w.heap.size + 1; omega) (.int .i64 n1)).setCell (p := ⟨w.heap.size + 1, 1, none⟩) (by show w.heap.size ≤ w.heap.size + 1; omega) (.int .i64 n2)
    have KP2 := Lib.hid kp2; have KZ2 := Lib.hid kz2; have KR2 := Lib.hid kr2; have KB2 := Lib.hid kb2
    clear hG kp kz kb kp2 kz2 kr2 kb2 hr2 hg2 HR1 HG1 KZ4 KP4 KB4 KR4 C1 C2
    go_wp2_with fail
    generalize ((v2.setCell ⟨w.heap.size + 1, 0, none⟩ (.int .i64 n1)).setCell ⟨w.heap.size + 1, 1, none⟩ (.int .i64 n2)) = v5 at *
    clear y0 y1 f0 f1
    refine (C3.out _ KR2.out).mono ?_
    rintro e v6 ⟨rfl, hr1, hg1⟩
    have HR1 := Lib.hid hr1; have HG1 := Lib.hid hg1; clear hr1 hg1
    go_wp2_with fail
    refine (C4.out _ HR1.out).mono ?_
    rintro e v7 ⟨rfl, hr2, hg2⟩
    have hG := only_trans HG1.out hg2
    have kp := KP2.out.grown hG (by intro e; have := Option.some.inj e; omega)
    have kz := KZ2.out.grown hG (by intro e; have := Option.some.inj e; omega)
    have kb := KB2.out.grown hG (by have := KB2.out.size; exact this) (by intro q hq; cases hq; omega)
    have y0 : v7.cell? ⟨w.heap.size + 1, 2, none⟩ = some (.int .i64 0) := kp.cell 2
    have y1 : v7.cell? ⟨w.heap.size + 1, 3, none⟩ = some (.int .i64 0) := kp.cell 3
    have f0 := kp.fz 2; have f1 := kp.fz 3
    have kp2 := (kp.set 2 (.int .i64 n3)).set 3 (.int .i64 n4)
    rw [PS.out] at kp2
    have kz2 := (kz.far (p := ⟨w.heap.size + 1, 2, none⟩) (by show w.heap.size ≠ w.heap.size + 1; omega) (.int .i64 n3)).far (p := ⟨w.heap.size + 1, 3, none⟩) (by show w.heap.size ≠ w.heap.size + 1; omega) (.int .i64 n4)
    have kr2 : RdSt ((v7.setCell ⟨w.heap.size + 1, 2, none⟩ (.int .i64 n3)).setCell ⟨w.heap.size + 1, 3, none⟩ (.int .i64 n4)) (w.heap.size + 1 + 1) (some (s.extract 8 224)) := (Bk.far (t := 141) hr2 (p := ⟨w.heap.size + 1, 2, none⟩) (by show w.heap.size + 1 + 1 ≠ w.heap.size + 1; omega) (.int .i64 n3)).far (p := ⟨w.heap.size + 1, 3, none⟩) (by show w.heap.size + 1 + 1 ≠ w.heap.size + 1; omega) (.int .i64 n4)
    have kb2 := (kb.setCell (p := ⟨w.heap.size + 1, 2, none⟩) (by show w.heap.size ≤ w.heap.size + 1; omega) (.int .i64 n3)).setCell (p := ⟨w.heap.size + 1, 3, none⟩) (by show w.heap.size ≤ w.heap.size + 1; omega) (.int .i64 n4)
    have hd : Dc w ((v7.setCell ⟨w.heap.size + 1, 2, none⟩ (.int .i64 n3)).setCell ⟨w.heap.size + 1, 3, none⟩ (.int .i64 n4)) w.heap.size (w.heap.size + 1) (w.heap.size + 1 + 1) s 0 := ⟨kr2, kp2, kz2, kb2, Nat.le_refl _, Nat.lt_succ_self _, Nat.lt_succ_self _⟩
    have HD := Lib.hid hd
    have HCS := Lib.hid (show ∀ i, i < 0 → CellOk s i from fun i hi => absurd hi (Nat.not_lt_zero i))
    clear hd hG kp kz kb kp2 kz2 kr2 kb2 hr2 hg2 HR1 HG1 KZ2 KP2 KB2 KR2 C3 C4 PS
    go_wp2_with fail
    go_step3
    go_wp2_with fail
    generalize ((v7.setCell ⟨w.heap.size + 1, 2, none⟩ (.int .i64 n3)).setCell ⟨w.heap.size + 1, 3, none⟩ (.int .i64 n4)) = v8 at *
    clear y0 y1 f0 f1 h01 h12 h24 h48
    obtain ⟨g, eg⟩ : ∃ x, x = w.heap.size + 1 + 1 := ⟨_, rfl⟩
    obtain ⟨gp, egp⟩ : ∃ x, x = w.heap.size + 1 := ⟨_, rfl⟩
    obtain ⟨gz, egz⟩ : ∃ x, x = w.heap.size := ⟨_, rfl⟩
    have HD' := Lib.hid (show Dc w v8 gz gp g s 0 by rw [eg, egp, egz]; exact HD.out)
    rw [← eg, ← egp, ← egz]
    clear HD eg egp egz
    have HD := HD'
    clear HD'
    have hj1 : 0 < 6 := by omega
    obtain ⟨b1, b2, bd⟩ := cell_facts s (0) hs hj1
    have ck : CellOk s (0) ↔ Oct.sval ((cellAt s (0)).extract 1 2) ≤ 34 ∧ ((cellAt s (0)).extract 2 36).extract (Oct.sval ((cellAt s (0)).extract 1 2)) 34 = Fr.zs (34 - Oct.sval ((cellAt s (0)).extract 1 2)) := Iff.rfl
    have c1 := cnum1 s (0) hs hj1 g
    have c2 := cnum2 s (0) hs hj1 g
    have c3 := cbytes s (0) hs hj1 g
    have pn := part_next s (0) hj1
    generalize Oct.sval ((cellAt s (0)).extract 0 1) = st at b1 b2 bd ck c1 c2 c3 pn
    generalize Oct.sval ((cellAt s (0)).extract 1 2) = nn at b1 b2 bd ck c1 c2 c3 pn
    generalize (cellAt s (0)).extract 2 36 = dd at b1 b2 bd ck c1 c2 c3 pn
    have C1 := Lib.hid c1; have C2 := Lib.hid c2; have C3 := Lib.hid c3; have PN := Lib.hid pn; have CK := Lib.hid ck
    clear c1 c2 c3 pn ck
    refine (C1.out _ HD.out.rd).mono ?_
    rintro e v1 ⟨rfl, hr1, hg1⟩
    have HR1 := Lib.hid hr1; have HG1 := Lib.hid hg1; clear hr1 hg1
    go_wp2_with fail
    refine (C2.out _ HR1.out).mono ?_
    rintro e v2 ⟨rfl, hr2, hg2⟩
    have HR2 := Lib.hid hr2; have HG2 := Lib.hid (only_trans HG1.out hg2); clear hr2 hg2 HR1 HG1
    go_wp2_with fail
    refine (C3.out _ HR2.out).mono ?_
    rintro e v3 ⟨rfl, hr3, hg3⟩
    have hG := only_trans HG2.out hg3
    have hne1 : some gp ≠ some g := by have := HD.out.hg; intro e; cases e; omega
    have hne2 : some gz ≠ some g := by have := HD.out.hg; have := HD.out.hp; intro e; cases e; omega
    have kp := HD.out.pg.grown hG hne1
    have kz := HD.out.rz.grown hG hne2
    have kb : Below w.heap.size w v3 := HD.out.bel.grown hG (by have := HD.out.bel.size; exact this) (by intro q hq; cases hq; have := HD.out.hz; have := HD.out.hp; have := HD.out.hg; omega)
    have hz' := HD.out.hz; have hp' := HD.out.hp; have hg' := HD.out.hg
    have HR3 := Lib.hid hr3; have KP := Lib.hid kp; have KZ := Lib.hid kz; have KB := Lib.hid kb
    have HZ := Lib.hid hz'; have HP := Lib.hid hp'; have HG := Lib.hid hg'
    clear hr3 hg3 hG HG2 HR2 kp kz kb hne1 hne2 HD hz' hp' hg' C1 C2 C3
    go_wp2_with fail
    by_cases hn34 : nn ≤ 34
    · have hn34' : decide (34 < (nn : Int)) = false := by simp; omega
      have hnn : (nn : Int) ≤ (dd.size : Int) := by omega
      have cz := fun w => zeros_any nn w hn34
      have CZ := Lib.hid cz
      clear cz
      by_cases hfill : dd.extract nn 34 = Fr.zs (34 - nn)
      · have hfe : ((dd.extract nn 34).toList == (Fr.zs (34 - nn)).toList) = true := by rw [hfill]; simp
        have hok := CK.out.2 ⟨hn34, hfill⟩
        have HOK := Lib.hid hok; have HFE := Lib.hid hfe
        generalize Fr.zs (34 - nn) = zz at *
        clear hfill hok
        go_quiet ((go_at_call 74; exact Calls.quiet_of_same (CZ.out _)))
        have KP' := Lib.hid (KP.out.drewN nq); have KZ' := Lib.hid (KZ.out.drewN nq); have KB' := Lib.hid (below_drewN KB.out nq); have HR3' := Lib.hid (show RdSt (v3.drewN nq) g _ from HR3.out)
        clear KP KZ KB HR3 CZ hfe
        generalize v3.drewN nq = v4 at *
        have hfe := HFE.out
        have y0 : v4.cell? ⟨gp, 4 + (0) * 2, none⟩ = some (.int .i64 ((part s (0)).c (0)).st) := by rw [KP'.out.cell]; rcases six hj1 with h | h | h | h | h | h <;> (try rw [h]) <;> rfl
        have y1 : v4.cell? ⟨gp, 4 + (0) * 2 + 1, none⟩ = some (.string ((part s (0)).c (0)).d) := by rw [KP'.out.cell]; rcases six hj1 with h | h | h | h | h | h <;> (try rw [h]) <;> rfl
        have f0 := KP'.out.fz (4 + (0) * 2)
        have f1 := KP'.out.fz (4 + (0) * 2 + 1)
        have kp5 := (KP'.out.set (4 + (0) * 2) (.int .i64 st)).set (4 + (0) * 2 + 1) (.string (dd.extract 0 nn))
        rw [PN.out] at kp5
        have kz5 := (KZ'.out.far (p := ⟨gp, 4 + (0) * 2, none⟩) (by have := HP.out; show gz ≠ gp; omega) (.int .i64 st)).far (p := ⟨gp, 4 + (0) * 2 + 1, none⟩) (by have := HP.out; show gz ≠ gp; omega) (.string (dd.extract 0 nn))
        have kr5 : RdSt ((v4.setCell ⟨gp, 4 + (0) * 2, none⟩ (.int .i64 st)).setCell ⟨gp, 4 + (0) * 2 + 1, none⟩ (.string (dd.extract 0 nn))) g (some (s.extract (8 + 36 * ((0) + 1)) 224)) := (Bk.far (t := 141) HR3'.out (p := ⟨gp, 4 + (0) * 2, none⟩) (by have := HG.out; show g ≠ gp; omega) (.int .i64 st)).far (p := ⟨gp, 4 + (0) * 2 + 1, none⟩) (by have := HG.out; show g ≠ gp; omega) (.string (dd.extract 0 nn))
        have kb5 := (KB'.out.setCell (p := ⟨gp, 4 + (0) * 2, none⟩) (by have := HZ.out; have := HP.out; show w.heap.size ≤ gp; omega) (.int .i64 st)).setCell (p := ⟨gp, 4 + (0) * 2 + 1, none⟩) (by have := HZ.out; have := HP.out; show w.heap.size ≤ gp; omega) (.string (dd.extract 0 nn))
        have hcs5 : ∀ i, i < (0) + 1 → CellOk s i := fun i hi => by
          by_cases e : i = (0)
          · rw [e]; exact HOK.out
          · exact HCS.out i (by omega)
        have KP5 := Lib.hid kp5; have KZ5 := Lib.hid kz5; have KR5 := Lib.hid kr5; have KB5 := Lib.hid kb5; have HCS5 := Lib.hid hcs5
        clear kp5 kz5 kr5 kb5 hcs5 KP' KZ' KB' HR3' PN CK HCS HOK HFE
        have hl : 0 + 1 < 6 := by omega
        simp only [Nat.zero_mul, Nat.add_zero, Nat.reduceAdd, Nat.reduceMul] at y0 y1 f0 f1
        go_wp2
        go_step3
        refine ⟨rfl, gz, gp, g, 0 + 1, ?_, hl, HCS5.out, ⟨KR5.out, KP5.out, KZ5.out, KB5.out, HZ.out, HP.out, HG.out⟩⟩
        rfl
      · have hfe : ((dd.extract nn 34).toList == (Fr.zs (34 - nn)).toList) = false := str_ne hfill
        have hd := dec_bad s (not_good_cell s hs _ hj1 fun h => hfill (CK.out.1 h).2)
        have HDG := Lib.hid hd; have HFE := Lib.hid hfe
        clear hd hfill hfe
        generalize Fr.zs (34 - nn) = zz at *
        have hfe := HFE.out
        go_quiet ((go_at_call 74; exact Calls.quiet_of_same (CZ.out _)))
        have KZ' := Lib.hid (KZ.out.drewN nq); have KB' := Lib.hid (below_drewN KB.out nq)
        clear KP KZ KB HR3 CZ
        generalize v3.drewN nq = v4 at *
        go_wp2_with (refine store_page rfl _ _ rfl gz Pg.zero _ rfl rfl KZ'.out ?_)
        simp only [Exit.jump]
        refine bodyPost_ret (dec_results _ _ gz Pg.zero.cs (setRow_heap _ _ _ _ _ _ KZ'.out) rfl rfl) rfl ?_
        rw [HDG.out.1, HDG.out.2]
        exact ⟨rfl, below_setRow KB'.out HZ.out _⟩
    · have hn34' : decide (34 < (nn : Int)) = true := by simp; omega
      have hd := dec_bad s (not_good_cell s hs _ hj1 fun h => hn34 (CK.out.1 h).1)
      have HDG := Lib.hid hd
      clear hd
      go_quiet (fail)
      have KZ' := Lib.hid (KZ.out.drewN nq); have KB' := Lib.hid (below_drewN KB.out nq)
      clear KP KZ KB HR3
      generalize v3.drewN nq = v4 at *
      go_wp2_with (refine store_page rfl _ _ rfl gz Pg.zero _ rfl rfl KZ'.out ?_)
      simp only [Exit.jump]
      refine bodyPost_ret (dec_results _ _ gz Pg.zero.cs (setRow_heap _ _ _ _ _ _ KZ'.out) rfl rfl) rfl ?_
      rw [HDG.out.1, HDG.out.2]
      exact ⟨rfl, below_setRow KB'.out HZ.out _⟩
  · rintro a' w' ⟨gz, gp, g, j, ha, hj, hcs, hd⟩
    obtain ⟨u, hu⟩ : ∃ u : Nat → Value, ∀ i, a'.tmps.getD i undef = u i := ⟨fun i => a'.tmps.getD i undef, fun _ => rfl⟩
    simp only [hu] at ha
    clear hu
    subst ha
    have HD := Lib.hid hd; have HCS := Lib.hid hcs
    clear hd hcs
    have hj1 : j < 6 := by omega
    obtain ⟨b1, b2, bd⟩ := cell_facts s (j) hs hj1
    have ck : CellOk s (j) ↔ Oct.sval ((cellAt s (j)).extract 1 2) ≤ 34 ∧ ((cellAt s (j)).extract 2 36).extract (Oct.sval ((cellAt s (j)).extract 1 2)) 34 = Fr.zs (34 - Oct.sval ((cellAt s (j)).extract 1 2)) := Iff.rfl
    have c1 := cnum1 s (j) hs hj1 g
    have c2 := cnum2 s (j) hs hj1 g
    have c3 := cbytes s (j) hs hj1 g
    have pn := part_next s (j) hj1
    generalize Oct.sval ((cellAt s (j)).extract 0 1) = st at b1 b2 bd ck c1 c2 c3 pn
    generalize Oct.sval ((cellAt s (j)).extract 1 2) = nn at b1 b2 bd ck c1 c2 c3 pn
    generalize (cellAt s (j)).extract 2 36 = dd at b1 b2 bd ck c1 c2 c3 pn
    have C1 := Lib.hid c1; have C2 := Lib.hid c2; have C3 := Lib.hid c3; have PN := Lib.hid pn; have CK := Lib.hid ck
    clear c1 c2 c3 pn ck
    go_wp2_with fail
    refine (C1.out _ HD.out.rd).mono ?_
    rintro e v1 ⟨rfl, hr1, hg1⟩
    have HR1 := Lib.hid hr1; have HG1 := Lib.hid hg1; clear hr1 hg1
    go_wp2_with fail
    refine (C2.out _ HR1.out).mono ?_
    rintro e v2 ⟨rfl, hr2, hg2⟩
    have HR2 := Lib.hid hr2; have HG2 := Lib.hid (only_trans HG1.out hg2); clear hr2 hg2 HR1 HG1
    go_wp2_with fail
    refine (C3.out _ HR2.out).mono ?_
    rintro e v3 ⟨rfl, hr3, hg3⟩
    have hG := only_trans HG2.out hg3
    have hne1 : some gp ≠ some g := by have := HD.out.hg; intro e; cases e; omega
    have hne2 : some gz ≠ some g := by have := HD.out.hg; have := HD.out.hp; intro e; cases e; omega
    have kp := HD.out.pg.grown hG hne1
    have kz := HD.out.rz.grown hG hne2
    have kb : Below w.heap.size w v3 := HD.out.bel.grown hG (by have := HD.out.bel.size; exact this) (by intro q hq; cases hq; have := HD.out.hz; have := HD.out.hp; have := HD.out.hg; omega)
    have hz' := HD.out.hz; have hp' := HD.out.hp; have hg' := HD.out.hg
    have HR3 := Lib.hid hr3; have KP := Lib.hid kp; have KZ := Lib.hid kz; have KB := Lib.hid kb
    have HZ := Lib.hid hz'; have HP := Lib.hid hp'; have HG := Lib.hid hg'
    clear hr3 hg3 hG HG2 HR2 kp kz kb hne1 hne2 HD hz' hp' hg' C1 C2 C3
    go_wp2_with fail
    by_cases hn34 : nn ≤ 34
    · have hn34' : decide (34 < (nn : Int)) = false := by simp; omega
      have hnn : (nn : Int) ≤ (dd.size : Int) := by omega
      have cz := fun w => zeros_any nn w hn34
      have CZ := Lib.hid cz
      clear cz
      by_cases hfill : dd.extract nn 34 = Fr.zs (34 - nn)
      · have hfe : ((dd.extract nn 34).toList == (Fr.zs (34 - nn)).toList) = true := by rw [hfill]; simp
        have hok := CK.out.2 ⟨hn34, hfill⟩
        have HOK := Lib.hid hok; have HFE := Lib.hid hfe
        generalize Fr.zs (34 - nn) = zz at *
        clear hfill hok
        go_quiet ((go_at_call 74; exact Calls.quiet_of_same (CZ.out _)))
        have KP' := Lib.hid (KP.out.drewN nq); have KZ' := Lib.hid (KZ.out.drewN nq); have KB' := Lib.hid (below_drewN KB.out nq); have HR3' := Lib.hid (show RdSt (v3.drewN nq) g _ from HR3.out)
        clear KP KZ KB HR3 CZ hfe
        generalize v3.drewN nq = v4 at *
        have hfe := HFE.out
        have y0 : v4.cell? ⟨gp, 4 + (j) * 2, none⟩ = some (.int .i64 ((part s (j)).c (j)).st) := by rw [KP'.out.cell]; rcases six hj1 with h | h | h | h | h | h <;> (try rw [h]) <;> rfl
        have y1 : v4.cell? ⟨gp, 4 + (j) * 2 + 1, none⟩ = some (.string ((part s (j)).c (j)).d) := by rw [KP'.out.cell]; rcases six hj1 with h | h | h | h | h | h <;> (try rw [h]) <;> rfl
        have f0 := KP'.out.fz (4 + (j) * 2)
        have f1 := KP'.out.fz (4 + (j) * 2 + 1)
        have kp5 := (KP'.out.set (4 + (j) * 2) (.int .i64 st)).set (4 + (j) * 2 + 1) (.string (dd.extract 0 nn))
        rw [PN.out] at kp5
        have kz5 := (KZ'.out.far (p := ⟨gp, 4 + (j) * 2, none⟩) (by have := HP.out; show gz ≠ gp; omega) (.int .i64 st)).far (p := ⟨gp, 4 + (j) * 2 + 1, none⟩) (by have := HP.out; show gz ≠ gp; omega) (.string (dd.extract 0 nn))
        have kr5 : RdSt ((v4.setCell ⟨gp, 4 + (j) * 2, none⟩ (.int .i64 st)).setCell ⟨gp, 4 + (j) * 2 + 1, none⟩ (.string (dd.extract 0 nn))) g (some (s.extract (8 + 36 * ((j) + 1)) 224)) := (Bk.far (t := 141) HR3'.out (p := ⟨gp, 4 + (j) * 2, none⟩) (by have := HG.out; show g ≠ gp; omega) (.int .i64 st)).far (p := ⟨gp, 4 + (j) * 2 + 1, none⟩) (by have := HG.out; show g ≠ gp; omega) (.string (dd.extract 0 nn))
        have kb5 := (KB'.out.setCell (p := ⟨gp, 4 + (j) * 2, none⟩) (by have := HZ.out; have := HP.out; show w.heap.size ≤ gp; omega) (.int .i64 st)).setCell (p := ⟨gp, 4 + (j) * 2 + 1, none⟩) (by have := HZ.out; have := HP.out; show w.heap.size ≤ gp; omega) (.string (dd.extract 0 nn))
        have hcs5 : ∀ i, i < (j) + 1 → CellOk s i := fun i hi => by
          by_cases e : i = (j)
          · rw [e]; exact HOK.out
          · exact HCS.out i (by omega)
        have KP5 := Lib.hid kp5; have KZ5 := Lib.hid kz5; have KR5 := Lib.hid kr5; have KB5 := Lib.hid kb5; have HCS5 := Lib.hid hcs5
        clear kp5 kz5 kr5 kb5 hcs5 KP' KZ' KB' HR3' PN CK HCS HOK HFE
        by_cases hl : (j) + 1 < 6
        · have hlI : ((j : Nat) : Int) + 1 < 6 := by omega
          go_wp2
          go_step3
          refine ⟨rfl, ⟨gz, gp, g, j + 1, ?_, hl, HCS5.out, ⟨KR5.out, KP5.out, KZ5.out, KB5.out, HZ.out, HP.out, HG.out⟩⟩, ?_⟩
          · rfl
          · show 6 - ((j : Int) + 1).toNat < 6 - ((j : Int)).toNat
            omega
        · have e6 : (j) + 1 = 6 := by omega
          have hlI : ¬ ((j : Nat) : Int) + 1 < 6 := by omega
          have k6 := KP5.out
          rw [e6] at k6
          have hc6 := HCS5.out
          rw [e6] at hc6
          have K6 := Lib.hid k6; have HC6 := Lib.hid hc6
          clear k6 hc6 KP5 KR5 HCS5
          go_wp2_with (refine load_page rfl _ rfl gp _ rfl K6.out ?_)
          refine (check_any (part s 6) _).mono ?_
          rintro e v6 ⟨rfl, hb6⟩
          have K7 := Lib.hid (K6.out.kept hb6); have Z7 := Lib.hid (KZ5.out.kept hb6); have B7 := Lib.hid (below_then KB5.out hb6 KB5.out.size)
          clear hb6 K6 KZ5 KB5
          by_cases hpo : (part s 6).ok
          · rw [Pg.err_ok hpo]
            have hd := dec_good s hs HC6.out hpo
            have HDG := Lib.hid hd
            clear hd hpo HC6
            go_wp2_with (first | (refine load_page rfl _ rfl gp _ rfl K7.out ?_) | (refine store_page rfl _ _ rfl gz (part s 6) _ rfl rfl Z7.out ?_))
            simp only [Exit.jump]
            refine bodyPost_ret (dec_results _ _ gz (part s 6).cs (setRow_heap _ _ _ _ _ _ Z7.out) rfl rfl) rfl ?_
            rw [HDG.out.1, HDG.out.2]
            exact ⟨by rw [part_last]; rfl, below_setRow B7.out HZ.out _⟩
          · rw [Pg.err_no hpo]
            have hd := dec_bad s (not_good_ok s hs hpo)
            have HDG := Lib.hid hd
            clear hd hpo HC6
            go_wp2_with (refine store_page rfl _ _ rfl gz Pg.zero _ rfl rfl Z7.out ?_)
            simp only [Exit.jump]
            refine bodyPost_ret (dec_results _ _ gz Pg.zero.cs (setRow_heap _ _ _ _ _ _ Z7.out) rfl rfl) rfl ?_
            rw [HDG.out.1, HDG.out.2]
            exact ⟨rfl, below_setRow B7.out HZ.out _⟩
      · have hfe : ((dd.extract nn 34).toList == (Fr.zs (34 - nn)).toList) = false := str_ne hfill
        have hd := dec_bad s (not_good_cell s hs _ hj1 fun h => hfill (CK.out.1 h).2)
        have HDG := Lib.hid hd; have HFE := Lib.hid hfe
        clear hd hfill hfe
        generalize Fr.zs (34 - nn) = zz at *
        have hfe := HFE.out
        go_quiet ((go_at_call 74; exact Calls.quiet_of_same (CZ.out _)))
        have KZ' := Lib.hid (KZ.out.drewN nq); have KB' := Lib.hid (below_drewN KB.out nq)
        clear KP KZ KB HR3 CZ
        generalize v3.drewN nq = v4 at *
        go_wp2_with (refine store_page rfl _ _ rfl gz Pg.zero _ rfl rfl KZ'.out ?_)
        simp only [Exit.jump]
        refine bodyPost_ret (dec_results _ _ gz Pg.zero.cs (setRow_heap _ _ _ _ _ _ KZ'.out) rfl rfl) rfl ?_
        rw [HDG.out.1, HDG.out.2]
        exact ⟨rfl, below_setRow KB'.out HZ.out _⟩
    · have hn34' : decide (34 < (nn : Int)) = true := by simp; omega
      have hd := dec_bad s (not_good_cell s hs _ hj1 fun h => hn34 (CK.out.1 h).1)
      have HDG := Lib.hid hd
      clear hd
      go_quiet (fail)
      have KZ' := Lib.hid (KZ.out.drewN nq); have KB' := Lib.hid (below_drewN KB.out nq)
      clear KP KZ KB HR3
      generalize v3.drewN nq = v4 at *
      go_wp2_with (refine store_page rfl _ _ rfl gz Pg.zero _ rfl rfl KZ'.out ?_)
      simp only [Exit.jump]
      refine bodyPost_ret (dec_results _ _ gz Pg.zero.cs (setRow_heap _ _ _ _ _ _ KZ'.out) rfl rfl) rfl ?_
      rw [HDG.out.1, HDG.out.2]
      exact ⟨rfl, below_setRow KB'.out HZ.out _⟩
end Go.Proofs.YtgafajbdmegfgaaGreat
namespace Go.Proofs.YtgafajbdmegfgaaGreat
open Go.RowKit

set_option maxHeartbeats 4000000 in
theorem decode_short (s : ByteArray) (w : World) (h : s.size ≠ 224) :
    Calls Tryz.prog 51 #[.string s] w fun e w' => e = .returned (.tuple #[Pg.zero.v, .int .i64 40]) ∧ Below w.heap.size w w' := by
  have hn : ((s.size : Int) == 224) = false := by simp; omega
  go_enter Tryz.func51, Tryz.ntmps51
  go_wp2
  go_step3
  go_wp2
  rw [Exit.noGoto_ret]
  refine bodyPost_ret (dec_results _ _ w.heap.size Pg.zero.cs (Bk.new w _ _) rfl rfl) rfl ?_
  exact ⟨rfl, (Below.refl _ _).alloc (Nat.le_refl _) _⟩
theorem decode_any (s : ByteArray) (w : World) :
    Calls Tryz.prog 51 #[.string s] w fun e w' => e = .returned (.tuple #[(Pg.dec s).v, .int .i64 (decErr s)]) ∧ Below w.heap.size w w' := by
  by_cases h : s.size = 224
  · exact decode_long s w h
  · have hd := dec_bad s fun hg => h hg.1
    rw [hd.1, hd.2]
    exact decode_short s w h
end Go.Proofs.YtgafajbdmegfgaaGreat
