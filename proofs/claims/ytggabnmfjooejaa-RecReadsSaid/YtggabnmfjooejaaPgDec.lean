/- The walk of package page: Decode. -/
import Derived.Test.YtggabnmfjooejaaPgDecPlain
import Derived.WalkMore
import Derived.ScopeJumps
import Derived.Laws.Rows
import Derived.Laws.ResultCell
import Derived.Deep.QuietTactic
import Derived.BigQuiet
set_option linter.unusedVariables false
set_option linter.unusedSimpArgs false
namespace Go.Proofs.Ytggabnmfjooejaa
open Go.RowKit

theorem rnum_at (s : ByteArray) (a k b : Nat) (hs : s.size = 224) (h1 : 1 ≤ k) (h2 : k ≤ 8) (hb : b = a + k) (h : b ≤ 224) : Oct.rnum (some (s.extract a 224)) (k : Int) = (Oct.sval (s.extract a b), some (s.extract b 224)) := by
  subst hb
  have hz : (s.extract a 224).size = 224 - a := ex_size _ _ _ (by omega)
  have hr : Oct.rbytes (some (s.extract a 224)) (k : Int) = (s.extract a (a + k), some (s.extract (a + k) 224)) := by
    simp only [Oct.rbytes]
    rw [if_neg (by rw [hz]; omega), hz]
    simp only [Int.toNat_natCast]
    rw [ex_ex _ _ _ _ _ (by omega), ex_ex _ _ _ _ _ (by omega)]
    simp only [Nat.add_zero]
    rw [show a + (224 - a) = 224 by omega]
  simp only [Oct.rnum]
  rw [if_neg (by omega), hr]
  simp only [Oct.nval]
  rw [if_pos (by rw [ex_size _ _ _ (by omega)]; omega)]
theorem rbytes_at (s : ByteArray) (a k b : Nat) (hs : s.size = 224) (hb : b = a + k) (h : b ≤ 224) : Oct.rbytes (some (s.extract a 224)) (k : Int) = (s.extract a b, some (s.extract b 224)) := by
  subst hb
  have hz : (s.extract a 224).size = 224 - a := ex_size _ _ _ (by omega)
  simp only [Oct.rbytes]
  rw [if_neg (by rw [hz]; omega), hz]
  simp only [Int.toNat_natCast]
  rw [ex_ex _ _ _ _ _ (by omega), ex_ex _ _ _ _ _ (by omega)]
  simp only [Nat.add_zero]
  rw [show a + (224 - a) = 224 by omega]
theorem num_at (s : ByteArray) (a k b : Nat) (n : Int) (hn : n = k) (hs : s.size = 224) (h1 : 1 ≤ k) (h2 : k ≤ 8) (hb : b = a + k) (h : b ≤ 224) (g : Nat) (wx : World) (hr : RdSt wx g (some (s.extract a 224))) :
    Calls Try.prog 47 #[.pointer (some ⟨g, 0, none⟩), .int .i64 n] wx fun e w' => e = .returned (.int .u64 (Oct.sval (s.extract a b) : Nat)) ∧ RdSt w' g (some (s.extract b 224)) ∧ wx.grownBy w' (some g) := by
  subst hn
  have c := rd_num g (k : Int) _ wx hr (by show (s.extract a 224).size ≤ maxLen; rw [ex_size _ _ _ (by omega)]; unfold maxLen; omega)
  rw [rnum_at s a k b hs h1 h2 hb h] at c
  exact c
theorem bytes_at (s : ByteArray) (a k b : Nat) (n : Int) (hn : n = k) (hs : s.size = 224) (hb : b = a + k) (h : b ≤ 224) (g : Nat) (wx : World) (hr : RdSt wx g (some (s.extract a 224))) :
    Calls Try.prog 33 #[.pointer (some ⟨g, 0, none⟩), .int .i64 n] wx fun e w' => e = .returned (.string (s.extract a b)) ∧ RdSt w' g (some (s.extract b 224)) ∧ wx.grownBy w' (some g) := by
  subst hn
  have c := rd_bytes g (k : Int) _ wx hr (by show (s.extract a 224).size ≤ maxLen; rw [ex_size _ _ _ (by omega)]; unfold maxLen; omega)
  rw [rbytes_at s a k b hs hb h] at c
  exact c
/-- The page while it is read: j cells stand. -/
def part (s : ByteArray) (j : Nat) : Pg := { Pg.of s with c := fun i => if i < j then Ce.of (cellAt s i) else ⟨0, ⟨#[]⟩⟩ }
theorem part_last (s : ByteArray) : (part s 6).cs = (Pg.of s).cs := Pg.cs_eq ⟨rfl, rfl, rfl, rfl, fun i hi => by simp [part, hi, Pg.of]⟩
theorem cell_ex (s : ByteArray) (j a b : Nat) (hb : b ≤ 36) : (cellAt s j).extract a b = s.extract (8 + 36 * j + a) (8 + 36 * j + b) := by
  unfold cellAt; exact ex_ex _ _ _ _ _ (by omega)
theorem cnum1 (s : ByteArray) (j : Nat) (hs : s.size = 224) (hj : j < 6) (g : Nat) (wx : World) (hr : RdSt wx g (some (s.extract (8 + 36 * j) 224))) :
    Calls Try.prog 47 #[.pointer (some ⟨g, 0, none⟩), .int .i64 1] wx fun e w' => e = .returned (.int .u64 (Oct.sval ((cellAt s j).extract 0 1) : Nat)) ∧ RdSt w' g (some (s.extract (8 + 36 * j + 1) 224)) ∧ wx.grownBy w' (some g) := by
  rw [cell_ex s j 0 1 (by omega)]
  exact num_at s (8 + 36 * j) 1 (8 + 36 * j + 1) 1 rfl hs (by omega) (by omega) rfl (by omega) g wx hr
theorem cnum2 (s : ByteArray) (j : Nat) (hs : s.size = 224) (hj : j < 6) (g : Nat) (wx : World) (hr : RdSt wx g (some (s.extract (8 + 36 * j + 1) 224))) :
    Calls Try.prog 47 #[.pointer (some ⟨g, 0, none⟩), .int .i64 1] wx fun e w' => e = .returned (.int .u64 (Oct.sval ((cellAt s j).extract 1 2) : Nat)) ∧ RdSt w' g (some (s.extract (8 + 36 * j + 2) 224)) ∧ wx.grownBy w' (some g) := by
  rw [cell_ex s j 1 2 (by omega)]
  exact num_at s (8 + 36 * j + 1) 1 (8 + 36 * j + 2) 1 rfl hs (by omega) (by omega) rfl (by omega) g wx hr
theorem cbytes (s : ByteArray) (j : Nat) (hs : s.size = 224) (hj : j < 6) (g : Nat) (wx : World) (hr : RdSt wx g (some (s.extract (8 + 36 * j + 2) 224))) :
    Calls Try.prog 33 #[.pointer (some ⟨g, 0, none⟩), .int .i64 34] wx fun e w' => e = .returned (.string ((cellAt s j).extract 2 36)) ∧ RdSt w' g (some (s.extract (8 + 36 * (j + 1)) 224)) ∧ wx.grownBy w' (some g) := by
  rw [cell_ex s j 2 36 (by omega)]
  exact bytes_at s (8 + 36 * j + 2) 34 (8 + 36 * j + 36) 34 rfl hs (by omega) (by omega) g wx hr
theorem cell_facts (s : ByteArray) (j : Nat) (hs : s.size = 224) (hj : j < 6) : Oct.sval ((cellAt s j).extract 0 1) < 256 ∧ Oct.sval ((cellAt s j).extract 1 2) < 256 ∧ ((cellAt s j).extract 2 36).size = 34 := by
  have hc := cellAt_size s hs j hj
  exact ⟨sval1_lt _ (by rw [ex_size _ _ _ (by omega)]), sval1_lt _ (by rw [ex_size _ _ _ (by omega)]), by rw [ex_size _ _ _ (by omega)]⟩
theorem part_next (s : ByteArray) (j : Nat) (hj : j < 6) : ((part s j).cs.setIfInBounds (4 + j * 2) (.int .i64 (Oct.sval ((cellAt s j).extract 0 1) : Nat))).setIfInBounds (4 + j * 2 + 1) (.string (((cellAt s j).extract 2 36).extract 0 (Oct.sval ((cellAt s j).extract 1 2)))) = (part s (j + 1)).cs := by
  have h1 : ∀ i, (part s j).c i = if i < j then Ce.of (cellAt s i) else ⟨0, ⟨#[]⟩⟩ := fun i => rfl
  have h2 : ∀ i, (part s (j + 1)).c i = if i < j + 1 then Ce.of (cellAt s i) else ⟨0, ⟨#[]⟩⟩ := fun i => rfl
  have h3 : (Ce.of (cellAt s j)).st = (Oct.sval ((cellAt s j).extract 0 1) : Nat) := rfl
  have h4 : (Ce.of (cellAt s j)).d = ((cellAt s j).extract 2 36).extract 0 (Oct.sval ((cellAt s j).extract 1 2)) := rfl
  have k1 : (part s (j + 1)).k = (part s j).k ∧ (part s (j + 1)).l = (part s j).l ∧ (part s (j + 1)).s = (part s j).s ∧ (part s (j + 1)).n = (part s j).n := ⟨rfl, rfl, rfl, rfl⟩
  rw [← h3, ← h4]
  unfold Pg.cs
  rw [k1.1, k1.2.1, k1.2.2.1, k1.2.2.2]
  simp only [h1, h2]
  generalize (part s j).k = a
  generalize (part s j).l = b
  generalize (part s j).s = c
  generalize (part s j).n = d
  rcases six hj with rfl | rfl | rfl | rfl | rfl | rfl <;> simp
structure Dc (w0 w : World) (gz gp g : Nat) (s : ByteArray) (j : Nat) : Prop where
  rd : RdSt w g (some (s.extract (8 + 36 * j) 224))
  pg : Bk w gp 49 (part s j).cs
  rz : Bk w gz 49 Pg.zero.cs
  bel : Below w0.heap.size w0 w
  hz : w0.heap.size ≤ gz
  hp : gz < gp
  hg : gp < g

end Go.Proofs.Ytggabnmfjooejaa
