/- A store's cell: live, or a ghost. -/
import Derived.Test.YteccaickdjbndaaSpcDir
set_option linter.unusedVariables false
set_option linter.unusedSimpArgs false
namespace Go.Proofs.Yteccaickdjbndaa
open Go.RowKit

def setSt (p : Pg) (j : Nat) (st : Int) : Pg := putC p j ⟨st, (p.c j).d⟩
theorem setSt_ok {p : Pg} (h : p.ok) (j : Nat) (hs : (p.c j).st ≠ 0) (hj : j < 6) {st : Int} (h1 : st = 1 ∨ st = 2) : (setSt p j st).ok := by
  refine ⟨h.1, fun i hi => ?_⟩
  show (if i = j then (⟨st, (p.c j).d⟩ : Ce) else p.c i).ok
  by_cases e : i = j
  · rw [if_pos e]
    rcases h.2 j hj with ⟨a, _⟩ | ⟨_, b⟩
    · exact absurd a hs
    · exact .inr ⟨h1, b⟩
  · rw [if_neg e]; exact h.2 i hi
theorem stRow (p : Pg) (j : Nat) (hj : j < 6) (st : Int) {w : World} {G : Nat} (hk : Bk w G 44 p.cs) : Bk (w.setCells G (4 + j * 2) [.int .i64 st]) G 44 (setSt p j st).cs := by
  have := Bk.lays [.int .i64 st] w p.cs (4 + j * 2) hk
  have e : lay p.cs (4 + j * 2) [.int .i64 st] = (setSt p j st).cs := by
    unfold setSt putC Pg.cs
    rcases six hj with h | h | h | h | h | h <;> subst h <;> rfl
  rw [e] at this
  exact this
theorem st_there {w : World} {G : Nat} {p : Pg} (hk : Bk w G 44 p.cs) (j : Nat) (hj : j < 6) : w.there G (4 + j * 2) 1 := fun q hq => cell_there hk j hj q (by omega)
def mayState (p : Pg) (s st : Int) : Prop := thereP p s ∧ (st = 1 ∨ st = 2)
def StatePost (w : World) (B g b gs r N M : Nat) (und pg : Nat → Pg) (s st : Int) (e : Ending) (w' : World) : Prop :=
  (¬ mayState (pg 0) s st ∧ e = .returned (.int .i64 1) ∧ Below w.heap.size w w') ∨
  (mayState (pg 0) s st ∧ e = .returned (.int .i64 0) ∧ SV w' B g b gs r N (M + 1) und (upd pg 0 (setSt (pg 0) (s - 1).toNat st)) ∧ w.grownBy w' (some b))
open Classical in
set_option maxRecDepth 100000 in
set_option maxHeartbeats 4000000 in
theorem state_good {w : World} {B g b gs r N M : Nat} {und pg : Nat → Pg} (h : SV w B g b gs r N M und pg) (hk : (pg 0).k = 1) (hok : (pg 0).ok) (h2 : 1 ≤ N) (hM : M < maxLen) (s st : Int) :
    Calls Try.prog 20 #[.pointer (some ⟨g, 0, none⟩), .int .i64 s, .int .i64 st] w (StatePost w B g b gs r N M und pg s st) := by
  have H := Lib.hid h
  have CC := Lib.hid (directory_good h hk)
  have NEG := Lib.hid h.gs_ne
  obtain ⟨p, hp⟩ : ∃ p, p = pg 0 := ⟨_, rfl⟩
  rw [← hp] at CC
  have PO := Lib.hid (show p.ok by rw [hp]; exact hok)
  have NO := Lib.hid (fun (w' : World) (ha : ¬ mayState p s st) (hb : Below w.heap.size w w') => show StatePost w B g b gs r N M und pg s st (.returned (.int .i64 1)) w' from .inl ⟨by rw [← hp]; exact ha, rfl, hb⟩)
  have YES := Lib.hid (fun (w' : World) (ha : mayState p s st) (hs : SV w' B g b gs r N (M + 1) und (upd pg 0 (setSt p (s - 1).toNat st))) (hg : w.grownBy w' (some b)) => show StatePost w B g b gs r N M und pg s st (.returned (.int .i64 0)) w' from .inr ⟨by rw [← hp]; exact ha, rfl, by rw [← hp]; exact hs, hg⟩)
  have CS := Lib.hid (fun (w' : World) (hs : SV w' B g b gs r N M und pg) (q : Pg) (hq : q.ok) => (show Calls Try.prog 16 #[.pointer (some ⟨g, 0, none⟩), .int .i64 0, .agg q.cs] w' _ from sv_set hs 0 (by omega) q hq hM))
  have CT := Lib.hid (fun (w' : World) => there_any p s w')
  clear h h2 hM hp hk hok
  go_enter Try.func20, Try.ntmps20
  go_wp2_with fail
  refine CC.out.mono ?_
  rintro e w1 ⟨rfl, hb⟩
  have hbb := hb.alloc hb.size (.cells p.cs 44)
  have H2 := Lib.hid (H.out.kept hbb)
  have K2 := Lib.hid (Bk.new w1 44 p.cs)
  have B2 := Lib.hid hbb
  obtain ⟨G4, hG4⟩ : ∃ G4, G4 = w1.heap.size := ⟨_, rfl⟩
  rw [← hG4] at K2
  have GL := Lib.hid (show w.heap.size ≤ G4 by rw [hG4]; exact hb.size)
  clear hb hbb CC
  dsimp only
  go_upto_region 4 with (refine store_page_new rfl _ _ rfl p rfl rfl ?_; rw [← hG4]; clear hG4; generalize w1.alloc (.cells p.cs 44) = w2 at *)
  go_wp2_with (refine load_page rfl _ rfl G4 p rfl K2.out ?_)
  refine (CT.out _).mono ?_
  rintro e w3 ⟨rfl, hb⟩
  have H3 := Lib.hid (H2.out.kept hb)
  have K3 := Lib.hid (K2.out.kept hb)
  have B3 := Lib.hid (below_then B2.out hb B2.out.size)
  clear hb CT H2 K2 B2
  by_cases ht : thereP p s
  · rw [decide_eq_true ht]
    have J := Lib.hid ht
    obtain ⟨j, hj⟩ : ∃ j : Nat, s = j + 1 := ⟨(s - 1).toNat, by have := ht.1; omega⟩
    have hj6 : j < 6 := by have := ht.2.1; omega
    have hsj : s - 1 = (j : Int) := by omega
    have hji : (j : Int) < 6 := by omega
    have HJ := Lib.hid (show j < 6 ∧ s - 1 = (j : Int) from ⟨hj6, hsj⟩)
    have HS := Lib.hid (show (p.c j).st ≠ 0 by have := ht.2.2; rw [hsj, Int.toNat_natCast] at this; exact this)
    clear hj ht
    by_cases h1 : st = 1
    · subst h1
      have x0 : w3.cell? ⟨G4, 4 + j * 2, none⟩ = some (.int .i64 (p.c j).st) := by
        rw [K3.out.cell]; rcases six hj6 with h | h | h | h | h | h <;> rw [h] <;> rfl
      have f0 : w3.frozen? ⟨G4, 4 + j * 2, none⟩ = false := K3.out.fz _
      have hg := setCells_only w3 G4 (4 + j * 2) [.int .i64 1]
      have H4 := Lib.hid (H3.out.grown hg (fun k hk => by cases hk; have := NEG.out; have := GL.out; omega))
      have K4 := Lib.hid (stRow p j hj6 1 K3.out)
      have B4 := Lib.hid (bl_grow B3.out hg (fun k hk => by cases hk; exact GL.out) B3.out.size)
      have QO := Lib.hid (setSt_ok PO.out j HS.out hj6 (st := 1) (by decide))
      have MS := Lib.hid (show mayState p s 1 from ⟨J.out, by decide⟩)
      have SJ := Lib.hid (show (s - 1).toNat = j by rw [hsj, Int.toNat_natCast])
      clear hg
      go_upto_region 7 with fail
      change Code.wp _ _ _ _ (w3.setCells G4 (4 + j * 2) [.int .i64 1])
      clear x0 K3 H3 B3 HS PO
      generalize w3.setCells G4 (4 + j * 2) [.int .i64 1] = w4 at *
      obtain ⟨q, hq⟩ : ∃ q, q = setSt p j 1 := ⟨_, rfl⟩
      rw [← hq] at K4 QO
      have HQ := Lib.hid hq
      clear hq
      go_wp2_with (refine load_page rfl _ rfl G4 q rfl K4.out ?_)
      refine (CS.out _ H4.out _ QO.out).mono ?_
      rintro e w7 ⟨rfl, hs, hg⟩
      have Y := Lib.hid (YES.out w7 MS.out (by rw [SJ.out, ← HQ.out]; exact hs) (only_trans (only_below B4.out (some b)) hg))
      clear hs hg CS H4 B4
      go_wp2
      go_ret
      exact Y.out
    · by_cases h2 : st = 2
      · subst h2
        have x0 : w3.cell? ⟨G4, 4 + j * 2, none⟩ = some (.int .i64 (p.c j).st) := by
          rw [K3.out.cell]; rcases six hj6 with h | h | h | h | h | h <;> rw [h] <;> rfl
        have f0 : w3.frozen? ⟨G4, 4 + j * 2, none⟩ = false := K3.out.fz _
        have hg := setCells_only w3 G4 (4 + j * 2) [.int .i64 2]
        have H4 := Lib.hid (H3.out.grown hg (fun k hk => by cases hk; have := NEG.out; have := GL.out; omega))
        have K4 := Lib.hid (stRow p j hj6 2 K3.out)
        have B4 := Lib.hid (bl_grow B3.out hg (fun k hk => by cases hk; exact GL.out) B3.out.size)
        have QO := Lib.hid (setSt_ok PO.out j HS.out hj6 (st := 2) (by decide))
        have MS := Lib.hid (show mayState p s 2 from ⟨J.out, by decide⟩)
        have SJ := Lib.hid (show (s - 1).toNat = j by rw [hsj, Int.toNat_natCast])
        clear hg
        go_upto_region 7 with fail
        change Code.wp _ _ _ _ (w3.setCells G4 (4 + j * 2) [.int .i64 2])
        clear x0 K3 H3 B3 HS PO
        generalize w3.setCells G4 (4 + j * 2) [.int .i64 2] = w4 at *
        obtain ⟨q, hq⟩ : ∃ q, q = setSt p j 2 := ⟨_, rfl⟩
        rw [← hq] at K4 QO
        have HQ := Lib.hid hq
        clear hq
        go_wp2_with (refine load_page rfl _ rfl G4 q rfl K4.out ?_)
        refine (CS.out _ H4.out _ QO.out).mono ?_
        rintro e w7 ⟨rfl, hs, hg⟩
        have Y := Lib.hid (YES.out w7 MS.out (by rw [SJ.out, ← HQ.out]; exact hs) (only_trans (only_below B4.out (some b)) hg))
        clear hs hg CS H4 B4
        go_wp2
        go_ret
        exact Y.out
      · have hb1 : (st != 1) = true := by simp [h1]
        have hb2 : (st != 2) = true := by simp [h2]
        have Y := Lib.hid (NO.out w3 (fun h => by rcases h.2 with h | h <;> contradiction) B3.out)
        go_wp2
        go_ret
        exact Y.out
  · rw [decide_eq_false ht]
    have Y := Lib.hid (NO.out w3 (fun h => ht h.1) B3.out)
    go_wp2
    go_ret
    exact Y.out
end Go.Proofs.Yteccaickdjbndaa
