/- A store made. -/
import Derived.Test.YtdhfcjplnbnkdaaSpcFind
import Derived.Test.YtdhfcjplnbnkdaaOctNum
set_option linter.unusedVariables false
set_option linter.unusedSimpArgs false
namespace Go.Proofs.Ytdhfcjplnbnkdaa
open Go.RowKit

def pgK (k s : Int) : Pg := ⟨k, 0, s, 0, fun _ => ⟨0, ⟨#[]⟩⟩⟩
def newPg (kind : Nat) (j : Nat) : Pg := pgK (if kind = 1 then 3 else 4) ((j : Int) + 1)
theorem newPg_ok (kind j : Nat) (hj : j < 6) : (newPg kind j).ok := by
  refine ⟨?_, fun i _ => .inl ⟨rfl, rfl⟩⟩
  unfold Pg.head newPg pgK
  dsimp only
  split <;> omega
theorem putRow (p : Pg) (j : Nat) (hj : j < 6) (st : Int) (d : ByteArray) {w : World} {G : Nat} (hk : Bk w G 40 p.cs) : Bk (w.setCells G (4 + j * 2) [.int .i64 st, .string d]) G 40 (putC p j ⟨st, d⟩).cs := by
  have := Bk.lays [.int .i64 st, .string d] w p.cs (4 + j * 2) hk
  have e : lay p.cs (4 + j * 2) [.int .i64 st, .string d] = (putC p j ⟨st, d⟩).cs := by
    unfold putC Pg.cs
    rcases six hj with h | h | h | h | h | h <;> subst h <;> rfl
  rw [e] at this
  exact this
theorem putC_ok {p : Pg} (h : p.ok) (j : Nat) (d : ByteArray) (hd : d.size ≤ 34) : (putC p j ⟨1, d⟩).ok := by
  refine ⟨h.1, fun i hi => ?_⟩
  show (if i = j then (⟨1, d⟩ : Ce) else p.c i).ok
  by_cases e : i = j
  · rw [if_pos e]; exact .inr ⟨.inl rfl, hd⟩
  · rw [if_neg e]; exact h.2 i hi
theorem byt_one (w : World) (n : UInt8) : Byt (w.alloc (.cells #[.int .u8 n.toNat] 5)) w.heap.size ⟨#[n]⟩ := by
  refine ⟨_, 0, 0, heap_alloc_new w _, .inr rfl, fun j hj => ?_⟩
  have h0 : j = 0 := by have : j < 1 := hj; omega
  subst h0
  rfl
section
variable {ops : Array Oper} {rest : List Oper} {o : Oper} {a : Act} {w : World} {Q : Exit → Act → World → Prop}
theorem build_new (hg : o.guard = none) (x : Operand) (ho : o.op = .build 40 #[(0, .const (.int .i64 4)), (2, x)]) (n : Int) (hx : a.eval x = .int .i64 n) (h : wpList Try.prog ops Q rest (a.put o.dst (.agg (pgK 4 n).cs)) w) : wpList Try.prog ops Q (o :: rest) a w := by
  refine wpList_plain hg fun K' hK' => ?_
  have hb : (Instr.build 40 #[(0, .int .i64 4), (2, .int .i64 n)]).run Try.prog w = .ok (.agg (pgK 4 n).cs) w := by kernel_rfl
  unfold Oper.wp execOp
  simp only [ho, Sem.run_bind, Sem.run_pure, Result.andThen_ok, List.map_toArray, List.map_cons, List.map_nil, hx]
  have hc : a.eval (.const (.int .i64 4)) = .int .i64 4 := rfl
  simp only [hc, hb, Result.andThen_ok]
  exact hK' _ _ h
end
theorem only_new {w w1 w2 : World} {b G : Nat} (h : w.grownBy w1 (some b)) (h2 : w1.grownBy w2 (some G)) (hg : w.heap.size ≤ G) : w.grownBy w2 (some b) :=
  ⟨h2.os.trans h.os, h2.tape.trans h.tape, h2.output.trans h.output, Nat.le_trans h.size h2.size, fun q hq hne => (h2.block q (Nat.lt_of_lt_of_le hq h.size) (fun e => by injection e with e; omega)).trans (h.block q hq hne)⟩
def MakePost (w : World) (B g b gs r N M n : Nat) (und pg : Nat → Pg) (kind : Nat) (e : Ending) (w' : World) : Prop :=
  ((∀ i, i < 6 → ((pg 0).c i).st ≠ 0) ∧ e = .returned (.tuple #[.int .i64 0, .int .i64 192]) ∧ Below w.heap.size w w') ∨
  (∃ j, j < 6 ∧ ((pg 0).c j).st = 0 ∧ (∀ i, i < n → ownB (pg 1) i = true) ∧ e = .returned (.tuple #[.int .i64 0, .int .i64 140]) ∧ Below w.heap.size w w') ∨
  (∃ j id, j < 6 ∧ ((pg 0).c j).st = 0 ∧ (∀ q, q < j → ((pg 0).c q).st ≠ 0) ∧ id < n ∧ ownB (pg 1) id = false ∧ (∀ i, i < id → ownB (pg 1) i = true) ∧
    e = .returned (.tuple #[.int .i64 ((j : Int) + 1), .int .i64 0]) ∧
    SV w' B g b gs r N (M + 3) und (upd (upd (upd pg 1 (mrk (pg 1) id true)) id (newPg kind j)) 0 (putC (pg 0) j ⟨1, stoD kind id⟩)) ∧ w.grownBy w' (some b))
set_option maxRecDepth 100000 in
set_option maxHeartbeats 4000000 in
theorem make_1 {w : World} {B g b gs r N M n : Nat} {und pg : Nat → Pg} (h : SV w B g b gs r N M und pg) (h2 : 2 ≤ N) (hn : n ≤ N) (hk : (pg 0).k = 1) (hok : (pg 0).ok) (hm : MapOk (pg 1) n) (hM : M + 2 < maxLen) :
    Calls Try.prog 12 #[.pointer (some ⟨g, 0, none⟩), .int .i64 1] w (MakePost w B g b gs r N M n und pg 1) := by
  have H := Lib.hid h
  have CC := Lib.hid (directory_good h hk)
  have NEG := Lib.hid h.gs_ne
  have HN := Lib.hid hn; have H2N := Lib.hid h2; have HM := Lib.hid hM
  have MO := Lib.hid hm
  obtain ⟨p, hp⟩ : ∃ p, p = pg 0 := ⟨_, rfl⟩
  have HP := Lib.hid hp
  rw [← hp] at CC
  have PO := Lib.hid (show p.ok by rw [hp]; exact hok)
  have CF := Lib.hid (fun (w' : World) => freeCell_any p w')
  have CK := Lib.hid (fun (w' : World) (hs : SV w' B g b gs r N M und pg) => take_good hs h2 hm (by omega))
  have FULL := Lib.hid (fun (w' : World) (ha : ∀ i, i < 6 → (p.c i).st ≠ 0) (hb : Below w.heap.size w w') => show MakePost w B g b gs r N M n und pg 1 (.returned (.tuple #[.int .i64 0, .int .i64 192])) w' from .inl ⟨by rw [← hp]; exact ha, rfl, hb⟩)
  have NONE := Lib.hid (fun (w' : World) (j : Nat) (hj : j < 6) (h0 : (p.c j).st = 0) (ha : ∀ i, i < n → ownB (pg 1) i = true) (hb : Below w.heap.size w w') => show MakePost w B g b gs r N M n und pg 1 (.returned (.tuple #[.int .i64 0, .int .i64 140])) w' from .inr (.inl ⟨j, hj, by rw [← hp]; exact h0, ha, rfl, hb⟩))
  have YES := Lib.hid (fun (w' : World) (j id : Nat) (hj : j < 6) (h0 : (p.c j).st = 0) (hq : ∀ q, q < j → (p.c q).st ≠ 0) (hi : id < n) (h1 : ownB (pg 1) id = false) (ha : ∀ i, i < id → ownB (pg 1) i = true)
      (hs : SV w' B g b gs r N (M + 3) und (upd (upd (upd pg 1 (mrk (pg 1) id true)) id (newPg 1 j)) 0 (putC p j ⟨1, stoD 1 id⟩))) (hg : w.grownBy w' (some b)) => show MakePost w B g b gs r N M n und pg 1 (.returned (.tuple #[.int .i64 ((j : Int) + 1), .int .i64 0])) w' from
    .inr (.inr ⟨j, id, hj, by rw [← hp]; exact h0, by rw [← hp]; exact hq, hi, h1, ha, rfl, by rw [← hp]; exact hs, hg⟩))
  clear h hp hk hok hm hM h2 hn
  go_enter Try.func12, Try.ntmps12
  go_wp2_with fail
  refine CC.out.mono ?_
  rintro e w1 ⟨rfl, hb⟩
  have hbb := hb.alloc hb.size (.cells p.cs 40)
  have H2 := Lib.hid (H.out.kept hbb)
  have K2 := Lib.hid (Bk.new w1 40 p.cs)
  have B2 := Lib.hid hbb
  obtain ⟨G4, hG4⟩ : ∃ G4, G4 = w1.heap.size := ⟨_, rfl⟩
  rw [← hG4] at K2
  have GL := Lib.hid (show w.heap.size ≤ G4 by rw [hG4]; exact hb.size)
  clear hb hbb CC
  dsimp only
  go_upto_region 6 with (refine store_page_new rfl _ _ rfl p rfl rfl ?_; rw [← hG4]; clear hG4; generalize w1.alloc (.cells p.cs 40) = w2 at *)
  go_wp2_with (refine load_page rfl _ rfl G4 p rfl K2.out ?_)
  refine (CF.out _).mono ?_
  rintro e w3 (⟨ha, rfl, hb⟩ | ⟨j, hj6, h0, hq, rfl, hb⟩)
  · have Y := Lib.hid (FULL.out w3 ha (below_then B2.out hb B2.out.size))
    clear hb ha
    go_wp2
    refine bodyPost_ret (v := .tuple #[.int .i64 0, .int .i64 192]) (by simp [results, Try.results12, go_sem]) rfl ?_
    exact Y.out
  have H3 := Lib.hid (H2.out.kept hb)
  have K3 := Lib.hid (K2.out.kept hb)
  have B3 := Lib.hid (below_then B2.out hb B2.out.size)
  have J := Lib.hid hj6; have J0 := Lib.hid h0; have JQ := Lib.hid hq
  clear hb CF H2 K2 B2 hj6 h0 hq
  as_aux_lemma =>
    go_wp2_with fail
    refine (CK.out _ H3.out).mono ?_
    rintro e w4 (⟨ha, rfl, hb⟩ | ⟨id, hid, hf, ha, rfl, hs, hg⟩)
    · have Y := Lib.hid (NONE.out w4 j J.out J0.out ha (below_then B3.out hb B3.out.size))
      clear hb ha
      go_wp2
      refine bodyPost_ret (v := .tuple #[.int .i64 0, .int .i64 140]) (by simp [results, Try.results12, go_sem]) rfl ?_
      exact Y.out
    have K4 := Lib.hid (K3.out.grown hg (fun e => by injection e with e; exact H3.out.map_ne K3.out e.symm))
    have G4' := Lib.hid (only_trans (only_below B3.out (some b)) hg)
    have H4 := Lib.hid hs
    have ID := Lib.hid hid; have IF := Lib.hid hf; have IA := Lib.hid ha
    have GS4 := Lib.hid (show w.heap.size ≤ w4.heap.size from Nat.le_trans B3.out.size hg.size)
    clear hs hg hid hf ha H3 K3 B3 CK
    as_aux_lemma =>
      have H5 := Lib.hid (H4.out.alloc (.cells (pgK 4 ((j : Int) + 1)).cs 40))
      have K5 := Lib.hid (K4.out.alloc (.cells (pgK 4 ((j : Int) + 1)).cs 40))
      have P5 := Lib.hid (Bk.new w4 40 (pgK 4 ((j : Int) + 1)).cs)
      obtain ⟨GP, hGP⟩ : ∃ GP, GP = w4.heap.size := ⟨_, rfl⟩
      rw [← hGP] at P5
      have hjw : (j : Int) < 6 := by have := J.out; omega
      go_upto_region 13 with (first | (refine build_new rfl _ rfl ((j : Int) + 1) (by go_num) ?_) | (refine store_page_new rfl _ _ rfl (pgK 4 ((j : Int) + 1)) rfl rfl ?_))
      have HGP := Lib.hid (show w.heap.size ≤ GP ∧ G4 ≠ GP ∧ G4 < GP by have := GS4.out; have := K4.out.lt; omega)
      have G5 := Lib.hid (only_trans G4'.out (only_below ((Below.refl w4.heap.size w4).alloc (Nat.le_refl _) (.cells (pgK 4 ((j : Int) + 1)).cs 40)) (some b)))
      rw [← hGP]
      clear hGP H4 K4 G4' GS4
      generalize w4.alloc (.cells (pgK 4 ((j : Int) + 1)).cs 40) = w5 at *
      have P5o := P5
      have HA := setCells_only w5 GP 0 [.int .i64 3]
      have H5 := Lib.hid (H5.out.grown HA (fun k hk => by cases hk; have := NEG.out; have := HGP.out; omega))
      have K5 := Lib.hid (K5.out.grown HA (fun e => by injection e with e; have := HGP.out; omega))
      have P5a := Lib.hid (Bk.lays [.int .i64 3] w5 (pgK 4 ((j : Int) + 1)).cs 0 P5.out)
      have P5b := Lib.hid (show Bk (w5.setCells GP 0 [.int .i64 3]) GP 40 (newPg 1 j).cs from P5a.out)
      have G5 := Lib.hid (only_new G5.out HA HGP.out.1)
      have P5 := P5b
      clear HA P5a P5b
      have hjy : (j : Int) < 6 := hjw
      have x0 : w5.cell? ⟨GP, 0, none⟩ = some (.int .i64 4) := by rw [P5o.out.cell]; rfl
      have f0 : w5.frozen? ⟨GP, 0, none⟩ = false := P5o.out.fz _
      go_upto_region 15 with fail
      change Code.wp _ _ _ _ (w5.setCells GP 0 [.int .i64 3])
      clear x0 f0 P5o
      generalize w5.setCells GP 0 [.int .i64 3] = w5 at *
      obtain ⟨q, hq⟩ : ∃ q, q = newPg 1 j := ⟨_, rfl⟩
      have HQ := Lib.hid hq
      have QO := Lib.hid (show q.ok by rw [hq]; exact newPg_ok 1 j J.out)
      have P5 := Lib.hid (show Bk w5 GP 40 q.cs by rw [hq]; exact P5.out)
      clear hq
      have CS1 := Lib.hid (show Calls Try.prog 25 #[.pointer (some ⟨g, 0, none⟩), .int .i64 id, .agg q.cs] w5 _ from sv_set H5.out id (by have := ID.out; have := HN.out; omega) q QO.out (by have := HM.out; omega))
      as_aux_lemma =>
        go_wp2_with (refine load_page rfl _ rfl GP q rfl P5.out ?_)
        refine CS1.out.mono ?_
        rintro e w6 ⟨rfl, hs, hg⟩
        have H6 := Lib.hid hs
        have K6 := Lib.hid (K5.out.grown hg (fun e => by injection e with e; exact H5.out.map_ne K5.out e.symm))
        have G6 := Lib.hid (only_trans G5.out hg)
        clear hs hg H5 K5 G5 P5 CS1
        have ID1 := Lib.hid (show id < 1024 by have := ID.out; have := MO.out.hi; omega)
        as_aux_lemma =>
          have hid1 := ID1.out
          go_wp2_with fail
          refine (num_fits id 4 w6 (by decide) (by decide) (by omega) (by unfold Oct.rest; omega)).mono ?_
          rintro e w7 ⟨rfl, hw⟩
          have hb : Below w6.heap.size w6 w7 := hw ▸ (Below.refl _ _).alloc (Nat.le_refl _) _
          have H7 := Lib.hid (H6.out.kept hb)
          have K7 := Lib.hid (K6.out.kept hb)
          have G7 := Lib.hid (only_trans G6.out (only_below hb (some b)))
          have DS := Lib.hid (show (⟨#[1]⟩ : ByteArray) ++ Oct.str id 4 = stoD 1 id from rfl)
          have hjj : (j : Int) < 6 := by have := J.out; omega
          clear hb hw H6 K6 G6
          have YB := Lib.hid (byt_one w7 1)
          as_aux_lemma =>
            go_upto_region 22 with (first
              | (refine conv_back rfl _ rfl w7.heap.size ⟨#[1]⟩ 1 1 rfl rfl YB.out ?_)
              | (refine store_cell_at rfl _ _ rfl G4 p j J.out 1 _ rfl rfl (K7.out.alloc _) ?_))
            rw [DS.out]
            have H8 := Lib.hid (H7.out.alloc (.cells #[.int .u8 1] 5))
            have K8 := Lib.hid (K7.out.alloc (.cells #[.int .u8 1] 5))
            have G8 := Lib.hid (only_trans G7.out (only_below ((Below.refl w7.heap.size w7).alloc (Nat.le_refl _) (.cells #[.int .u8 1] 5)) (some b)))
            clear H7 K7 G7 YB DS
            generalize w7.alloc (.cells #[.int .u8 1] 5) = w8 at *
            have HA := setCells_only w8 G4 (4 + j * 2) [.int .i64 1, .string (stoD 1 id)]
            have H9 := Lib.hid (H8.out.grown HA (fun k hk => by cases hk; have := NEG.out; have := GL.out; omega))
            have K9 := Lib.hid (putRow p j J.out 1 (stoD 1 id) K8.out)
            have G9 := Lib.hid (only_new G8.out HA GL.out)
            clear HA H8 K8 G8
            generalize w8.setCells G4 (4 + j * 2) [.int .i64 1, .string (stoD 1 id)] = w9 at *
            obtain ⟨dp, hdp⟩ : ∃ dp, dp = putC p j ⟨1, stoD 1 id⟩ := ⟨_, rfl⟩
            have DO := Lib.hid (show dp.ok by rw [hdp]; exact putC_ok PO.out j _ (by rw [stoD_size]; omega))
            rw [← hdp] at K9
            have HDP := Lib.hid hdp
            clear hdp
            have CS2 := Lib.hid (show Calls Try.prog 25 #[.pointer (some ⟨g, 0, none⟩), .int .i64 0, .agg dp.cs] w9 _ from sv_set H9.out 0 (by have := H2N.out; omega) dp DO.out (by have := HM.out; omega))
            have Y := Lib.hid (fun (w' : World) hs hg => YES.out w' j id J.out J0.out JQ.out ID.out IF.out IA.out (by rw [← HQ.out, ← HDP.out]; exact hs) hg)
            as_aux_lemma =>
              go_wp2_with (refine load_page rfl _ rfl G4 dp rfl K9.out ?_)
              refine CS2.out.mono ?_
              rintro e w10 ⟨rfl, hs, hg⟩
              have Y1 := Lib.hid (Y.out w10 hs (only_trans G9.out hg))
              clear hs hg CS2 H9 K9 G9 Y
              have hjz : (j : Int) < 6 := by have := J.out; omega
              go_wp2
              refine bodyPost_ret (v := .tuple #[.int .i64 ((j : Int) + 1), .int .i64 0]) (by simp [results, Try.results12, go_sem]) rfl ?_
              exact Y1.out
set_option maxRecDepth 100000 in
set_option maxHeartbeats 4000000 in
theorem make_2 {w : World} {B g b gs r N M n : Nat} {und pg : Nat → Pg} (h : SV w B g b gs r N M und pg) (h2 : 2 ≤ N) (hn : n ≤ N) (hk : (pg 0).k = 1) (hok : (pg 0).ok) (hm : MapOk (pg 1) n) (hM : M + 2 < maxLen) :
    Calls Try.prog 12 #[.pointer (some ⟨g, 0, none⟩), .int .i64 2] w (MakePost w B g b gs r N M n und pg 2) := by
  have H := Lib.hid h
  have CC := Lib.hid (directory_good h hk)
  have NEG := Lib.hid h.gs_ne
  have HN := Lib.hid hn; have H2N := Lib.hid h2; have HM := Lib.hid hM
  have MO := Lib.hid hm
  obtain ⟨p, hp⟩ : ∃ p, p = pg 0 := ⟨_, rfl⟩
  have HP := Lib.hid hp
  rw [← hp] at CC
  have PO := Lib.hid (show p.ok by rw [hp]; exact hok)
  have CF := Lib.hid (fun (w' : World) => freeCell_any p w')
  have CK := Lib.hid (fun (w' : World) (hs : SV w' B g b gs r N M und pg) => take_good hs h2 hm (by omega))
  have FULL := Lib.hid (fun (w' : World) (ha : ∀ i, i < 6 → (p.c i).st ≠ 0) (hb : Below w.heap.size w w') => show MakePost w B g b gs r N M n und pg 2 (.returned (.tuple #[.int .i64 0, .int .i64 192])) w' from .inl ⟨by rw [← hp]; exact ha, rfl, hb⟩)
  have NONE := Lib.hid (fun (w' : World) (j : Nat) (hj : j < 6) (h0 : (p.c j).st = 0) (ha : ∀ i, i < n → ownB (pg 1) i = true) (hb : Below w.heap.size w w') => show MakePost w B g b gs r N M n und pg 2 (.returned (.tuple #[.int .i64 0, .int .i64 140])) w' from .inr (.inl ⟨j, hj, by rw [← hp]; exact h0, ha, rfl, hb⟩))
  have YES := Lib.hid (fun (w' : World) (j id : Nat) (hj : j < 6) (h0 : (p.c j).st = 0) (hq : ∀ q, q < j → (p.c q).st ≠ 0) (hi : id < n) (h1 : ownB (pg 1) id = false) (ha : ∀ i, i < id → ownB (pg 1) i = true)
      (hs : SV w' B g b gs r N (M + 3) und (upd (upd (upd pg 1 (mrk (pg 1) id true)) id (newPg 2 j)) 0 (putC p j ⟨1, stoD 2 id⟩))) (hg : w.grownBy w' (some b)) => show MakePost w B g b gs r N M n und pg 2 (.returned (.tuple #[.int .i64 ((j : Int) + 1), .int .i64 0])) w' from
    .inr (.inr ⟨j, id, hj, by rw [← hp]; exact h0, by rw [← hp]; exact hq, hi, h1, ha, rfl, by rw [← hp]; exact hs, hg⟩))
  clear h hp hk hok hm hM h2 hn
  go_enter Try.func12, Try.ntmps12
  go_wp2_with fail
  refine CC.out.mono ?_
  rintro e w1 ⟨rfl, hb⟩
  have hbb := hb.alloc hb.size (.cells p.cs 40)
  have H2 := Lib.hid (H.out.kept hbb)
  have K2 := Lib.hid (Bk.new w1 40 p.cs)
  have B2 := Lib.hid hbb
  obtain ⟨G4, hG4⟩ : ∃ G4, G4 = w1.heap.size := ⟨_, rfl⟩
  rw [← hG4] at K2
  have GL := Lib.hid (show w.heap.size ≤ G4 by rw [hG4]; exact hb.size)
  clear hb hbb CC
  dsimp only
  go_upto_region 6 with (refine store_page_new rfl _ _ rfl p rfl rfl ?_; rw [← hG4]; clear hG4; generalize w1.alloc (.cells p.cs 40) = w2 at *)
  go_wp2_with (refine load_page rfl _ rfl G4 p rfl K2.out ?_)
  refine (CF.out _).mono ?_
  rintro e w3 (⟨ha, rfl, hb⟩ | ⟨j, hj6, h0, hq, rfl, hb⟩)
  · have Y := Lib.hid (FULL.out w3 ha (below_then B2.out hb B2.out.size))
    clear hb ha
    go_wp2
    refine bodyPost_ret (v := .tuple #[.int .i64 0, .int .i64 192]) (by simp [results, Try.results12, go_sem]) rfl ?_
    exact Y.out
  have H3 := Lib.hid (H2.out.kept hb)
  have K3 := Lib.hid (K2.out.kept hb)
  have B3 := Lib.hid (below_then B2.out hb B2.out.size)
  have J := Lib.hid hj6; have J0 := Lib.hid h0; have JQ := Lib.hid hq
  clear hb CF H2 K2 B2 hj6 h0 hq
  as_aux_lemma =>
    go_wp2_with fail
    refine (CK.out _ H3.out).mono ?_
    rintro e w4 (⟨ha, rfl, hb⟩ | ⟨id, hid, hf, ha, rfl, hs, hg⟩)
    · have Y := Lib.hid (NONE.out w4 j J.out J0.out ha (below_then B3.out hb B3.out.size))
      clear hb ha
      go_wp2
      refine bodyPost_ret (v := .tuple #[.int .i64 0, .int .i64 140]) (by simp [results, Try.results12, go_sem]) rfl ?_
      exact Y.out
    have K4 := Lib.hid (K3.out.grown hg (fun e => by injection e with e; exact H3.out.map_ne K3.out e.symm))
    have G4' := Lib.hid (only_trans (only_below B3.out (some b)) hg)
    have H4 := Lib.hid hs
    have ID := Lib.hid hid; have IF := Lib.hid hf; have IA := Lib.hid ha
    have GS4 := Lib.hid (show w.heap.size ≤ w4.heap.size from Nat.le_trans B3.out.size hg.size)
    clear hs hg hid hf ha H3 K3 B3 CK
    as_aux_lemma =>
      have H5 := Lib.hid (H4.out.alloc (.cells (pgK 4 ((j : Int) + 1)).cs 40))
      have K5 := Lib.hid (K4.out.alloc (.cells (pgK 4 ((j : Int) + 1)).cs 40))
      have P5 := Lib.hid (Bk.new w4 40 (pgK 4 ((j : Int) + 1)).cs)
      obtain ⟨GP, hGP⟩ : ∃ GP, GP = w4.heap.size := ⟨_, rfl⟩
      rw [← hGP] at P5
      have hjw : (j : Int) < 6 := by have := J.out; omega
      go_upto_region 13 with (first | (refine build_new rfl _ rfl ((j : Int) + 1) (by go_num) ?_) | (refine store_page_new rfl _ _ rfl (pgK 4 ((j : Int) + 1)) rfl rfl ?_))
      have HGP := Lib.hid (show w.heap.size ≤ GP ∧ G4 ≠ GP ∧ G4 < GP by have := GS4.out; have := K4.out.lt; omega)
      have G5 := Lib.hid (only_trans G4'.out (only_below ((Below.refl w4.heap.size w4).alloc (Nat.le_refl _) (.cells (pgK 4 ((j : Int) + 1)).cs 40)) (some b)))
      rw [← hGP]
      clear hGP H4 K4 G4' GS4
      generalize w4.alloc (.cells (pgK 4 ((j : Int) + 1)).cs 40) = w5 at *
      obtain ⟨q, hq⟩ : ∃ q, q = newPg 2 j := ⟨_, rfl⟩
      have HQ := Lib.hid hq
      have QO := Lib.hid (show q.ok by rw [hq]; exact newPg_ok 2 j J.out)
      have P5 := Lib.hid (show Bk w5 GP 40 q.cs by rw [hq]; exact P5.out)
      clear hq
      have CS1 := Lib.hid (show Calls Try.prog 25 #[.pointer (some ⟨g, 0, none⟩), .int .i64 id, .agg q.cs] w5 _ from sv_set H5.out id (by have := ID.out; have := HN.out; omega) q QO.out (by have := HM.out; omega))
      as_aux_lemma =>
        go_wp2_with (refine load_page rfl _ rfl GP q rfl P5.out ?_)
        refine CS1.out.mono ?_
        rintro e w6 ⟨rfl, hs, hg⟩
        have H6 := Lib.hid hs
        have K6 := Lib.hid (K5.out.grown hg (fun e => by injection e with e; exact H5.out.map_ne K5.out e.symm))
        have G6 := Lib.hid (only_trans G5.out hg)
        clear hs hg H5 K5 G5 P5 CS1
        have ID1 := Lib.hid (show id < 1024 by have := ID.out; have := MO.out.hi; omega)
        as_aux_lemma =>
          have hid1 := ID1.out
          go_wp2_with fail
          refine (num_fits id 4 w6 (by decide) (by decide) (by omega) (by unfold Oct.rest; omega)).mono ?_
          rintro e w7 ⟨rfl, hw⟩
          have hb : Below w6.heap.size w6 w7 := hw ▸ (Below.refl _ _).alloc (Nat.le_refl _) _
          have H7 := Lib.hid (H6.out.kept hb)
          have K7 := Lib.hid (K6.out.kept hb)
          have G7 := Lib.hid (only_trans G6.out (only_below hb (some b)))
          have DS := Lib.hid (show (⟨#[2]⟩ : ByteArray) ++ Oct.str id 4 = stoD 2 id from rfl)
          have hjj : (j : Int) < 6 := by have := J.out; omega
          clear hb hw H6 K6 G6
          have YB := Lib.hid (byt_one w7 2)
          as_aux_lemma =>
            go_upto_region 22 with (first
              | (refine conv_back rfl _ rfl w7.heap.size ⟨#[2]⟩ 1 1 rfl rfl YB.out ?_)
              | (refine store_cell_at rfl _ _ rfl G4 p j J.out 1 _ rfl rfl (K7.out.alloc _) ?_))
            rw [DS.out]
            have H8 := Lib.hid (H7.out.alloc (.cells #[.int .u8 2] 5))
            have K8 := Lib.hid (K7.out.alloc (.cells #[.int .u8 2] 5))
            have G8 := Lib.hid (only_trans G7.out (only_below ((Below.refl w7.heap.size w7).alloc (Nat.le_refl _) (.cells #[.int .u8 2] 5)) (some b)))
            clear H7 K7 G7 YB DS
            generalize w7.alloc (.cells #[.int .u8 2] 5) = w8 at *
            have HA := setCells_only w8 G4 (4 + j * 2) [.int .i64 1, .string (stoD 2 id)]
            have H9 := Lib.hid (H8.out.grown HA (fun k hk => by cases hk; have := NEG.out; have := GL.out; omega))
            have K9 := Lib.hid (putRow p j J.out 1 (stoD 2 id) K8.out)
            have G9 := Lib.hid (only_new G8.out HA GL.out)
            clear HA H8 K8 G8
            generalize w8.setCells G4 (4 + j * 2) [.int .i64 1, .string (stoD 2 id)] = w9 at *
            obtain ⟨dp, hdp⟩ : ∃ dp, dp = putC p j ⟨1, stoD 2 id⟩ := ⟨_, rfl⟩
            have DO := Lib.hid (show dp.ok by rw [hdp]; exact putC_ok PO.out j _ (by rw [stoD_size]; omega))
            rw [← hdp] at K9
            have HDP := Lib.hid hdp
            clear hdp
            have CS2 := Lib.hid (show Calls Try.prog 25 #[.pointer (some ⟨g, 0, none⟩), .int .i64 0, .agg dp.cs] w9 _ from sv_set H9.out 0 (by have := H2N.out; omega) dp DO.out (by have := HM.out; omega))
            have Y := Lib.hid (fun (w' : World) hs hg => YES.out w' j id J.out J0.out JQ.out ID.out IF.out IA.out (by rw [← HQ.out, ← HDP.out]; exact hs) hg)
            as_aux_lemma =>
              go_wp2_with (refine load_page rfl _ rfl G4 dp rfl K9.out ?_)
              refine CS2.out.mono ?_
              rintro e w10 ⟨rfl, hs, hg⟩
              have Y1 := Lib.hid (Y.out w10 hs (only_trans G9.out hg))
              clear hs hg CS2 H9 K9 G9 Y
              have hjz : (j : Int) < 6 := by have := J.out; omega
              go_wp2
              refine bodyPost_ret (v := .tuple #[.int .i64 ((j : Int) + 1), .int .i64 0]) (by simp [results, Try.results12, go_sem]) rfl ?_
              exact Y1.out
set_option maxRecDepth 100000 in
set_option maxHeartbeats 4000000 in
theorem make_3 {w : World} {B g b gs r N M n : Nat} {und pg : Nat → Pg} (h : SV w B g b gs r N M und pg) (h2 : 2 ≤ N) (hn : n ≤ N) (hk : (pg 0).k = 1) (hok : (pg 0).ok) (hm : MapOk (pg 1) n) (hM : M + 2 < maxLen) :
    Calls Try.prog 12 #[.pointer (some ⟨g, 0, none⟩), .int .i64 3] w (MakePost w B g b gs r N M n und pg 3) := by
  have H := Lib.hid h
  have CC := Lib.hid (directory_good h hk)
  have NEG := Lib.hid h.gs_ne
  have HN := Lib.hid hn; have H2N := Lib.hid h2; have HM := Lib.hid hM
  have MO := Lib.hid hm
  obtain ⟨p, hp⟩ : ∃ p, p = pg 0 := ⟨_, rfl⟩
  have HP := Lib.hid hp
  rw [← hp] at CC
  have PO := Lib.hid (show p.ok by rw [hp]; exact hok)
  have CF := Lib.hid (fun (w' : World) => freeCell_any p w')
  have CK := Lib.hid (fun (w' : World) (hs : SV w' B g b gs r N M und pg) => take_good hs h2 hm (by omega))
  have FULL := Lib.hid (fun (w' : World) (ha : ∀ i, i < 6 → (p.c i).st ≠ 0) (hb : Below w.heap.size w w') => show MakePost w B g b gs r N M n und pg 3 (.returned (.tuple #[.int .i64 0, .int .i64 192])) w' from .inl ⟨by rw [← hp]; exact ha, rfl, hb⟩)
  have NONE := Lib.hid (fun (w' : World) (j : Nat) (hj : j < 6) (h0 : (p.c j).st = 0) (ha : ∀ i, i < n → ownB (pg 1) i = true) (hb : Below w.heap.size w w') => show MakePost w B g b gs r N M n und pg 3 (.returned (.tuple #[.int .i64 0, .int .i64 140])) w' from .inr (.inl ⟨j, hj, by rw [← hp]; exact h0, ha, rfl, hb⟩))
  have YES := Lib.hid (fun (w' : World) (j id : Nat) (hj : j < 6) (h0 : (p.c j).st = 0) (hq : ∀ q, q < j → (p.c q).st ≠ 0) (hi : id < n) (h1 : ownB (pg 1) id = false) (ha : ∀ i, i < id → ownB (pg 1) i = true)
      (hs : SV w' B g b gs r N (M + 3) und (upd (upd (upd pg 1 (mrk (pg 1) id true)) id (newPg 3 j)) 0 (putC p j ⟨1, stoD 3 id⟩))) (hg : w.grownBy w' (some b)) => show MakePost w B g b gs r N M n und pg 3 (.returned (.tuple #[.int .i64 ((j : Int) + 1), .int .i64 0])) w' from
    .inr (.inr ⟨j, id, hj, by rw [← hp]; exact h0, by rw [← hp]; exact hq, hi, h1, ha, rfl, by rw [← hp]; exact hs, hg⟩))
  clear h hp hk hok hm hM h2 hn
  go_enter Try.func12, Try.ntmps12
  go_wp2_with fail
  refine CC.out.mono ?_
  rintro e w1 ⟨rfl, hb⟩
  have hbb := hb.alloc hb.size (.cells p.cs 40)
  have H2 := Lib.hid (H.out.kept hbb)
  have K2 := Lib.hid (Bk.new w1 40 p.cs)
  have B2 := Lib.hid hbb
  obtain ⟨G4, hG4⟩ : ∃ G4, G4 = w1.heap.size := ⟨_, rfl⟩
  rw [← hG4] at K2
  have GL := Lib.hid (show w.heap.size ≤ G4 by rw [hG4]; exact hb.size)
  clear hb hbb CC
  dsimp only
  go_upto_region 6 with (refine store_page_new rfl _ _ rfl p rfl rfl ?_; rw [← hG4]; clear hG4; generalize w1.alloc (.cells p.cs 40) = w2 at *)
  go_wp2_with (refine load_page rfl _ rfl G4 p rfl K2.out ?_)
  refine (CF.out _).mono ?_
  rintro e w3 (⟨ha, rfl, hb⟩ | ⟨j, hj6, h0, hq, rfl, hb⟩)
  · have Y := Lib.hid (FULL.out w3 ha (below_then B2.out hb B2.out.size))
    clear hb ha
    go_wp2
    refine bodyPost_ret (v := .tuple #[.int .i64 0, .int .i64 192]) (by simp [results, Try.results12, go_sem]) rfl ?_
    exact Y.out
  have H3 := Lib.hid (H2.out.kept hb)
  have K3 := Lib.hid (K2.out.kept hb)
  have B3 := Lib.hid (below_then B2.out hb B2.out.size)
  have J := Lib.hid hj6; have J0 := Lib.hid h0; have JQ := Lib.hid hq
  clear hb CF H2 K2 B2 hj6 h0 hq
  as_aux_lemma =>
    go_wp2_with fail
    refine (CK.out _ H3.out).mono ?_
    rintro e w4 (⟨ha, rfl, hb⟩ | ⟨id, hid, hf, ha, rfl, hs, hg⟩)
    · have Y := Lib.hid (NONE.out w4 j J.out J0.out ha (below_then B3.out hb B3.out.size))
      clear hb ha
      go_wp2
      refine bodyPost_ret (v := .tuple #[.int .i64 0, .int .i64 140]) (by simp [results, Try.results12, go_sem]) rfl ?_
      exact Y.out
    have K4 := Lib.hid (K3.out.grown hg (fun e => by injection e with e; exact H3.out.map_ne K3.out e.symm))
    have G4' := Lib.hid (only_trans (only_below B3.out (some b)) hg)
    have H4 := Lib.hid hs
    have ID := Lib.hid hid; have IF := Lib.hid hf; have IA := Lib.hid ha
    have GS4 := Lib.hid (show w.heap.size ≤ w4.heap.size from Nat.le_trans B3.out.size hg.size)
    clear hs hg hid hf ha H3 K3 B3 CK
    as_aux_lemma =>
      have H5 := Lib.hid (H4.out.alloc (.cells (pgK 4 ((j : Int) + 1)).cs 40))
      have K5 := Lib.hid (K4.out.alloc (.cells (pgK 4 ((j : Int) + 1)).cs 40))
      have P5 := Lib.hid (Bk.new w4 40 (pgK 4 ((j : Int) + 1)).cs)
      obtain ⟨GP, hGP⟩ : ∃ GP, GP = w4.heap.size := ⟨_, rfl⟩
      rw [← hGP] at P5
      have hjw : (j : Int) < 6 := by have := J.out; omega
      go_upto_region 13 with (first | (refine build_new rfl _ rfl ((j : Int) + 1) (by go_num) ?_) | (refine store_page_new rfl _ _ rfl (pgK 4 ((j : Int) + 1)) rfl rfl ?_))
      have HGP := Lib.hid (show w.heap.size ≤ GP ∧ G4 ≠ GP ∧ G4 < GP by have := GS4.out; have := K4.out.lt; omega)
      have G5 := Lib.hid (only_trans G4'.out (only_below ((Below.refl w4.heap.size w4).alloc (Nat.le_refl _) (.cells (pgK 4 ((j : Int) + 1)).cs 40)) (some b)))
      rw [← hGP]
      clear hGP H4 K4 G4' GS4
      generalize w4.alloc (.cells (pgK 4 ((j : Int) + 1)).cs 40) = w5 at *
      obtain ⟨q, hq⟩ : ∃ q, q = newPg 3 j := ⟨_, rfl⟩
      have HQ := Lib.hid hq
      have QO := Lib.hid (show q.ok by rw [hq]; exact newPg_ok 3 j J.out)
      have P5 := Lib.hid (show Bk w5 GP 40 q.cs by rw [hq]; exact P5.out)
      clear hq
      have CS1 := Lib.hid (show Calls Try.prog 25 #[.pointer (some ⟨g, 0, none⟩), .int .i64 id, .agg q.cs] w5 _ from sv_set H5.out id (by have := ID.out; have := HN.out; omega) q QO.out (by have := HM.out; omega))
      as_aux_lemma =>
        go_wp2_with (refine load_page rfl _ rfl GP q rfl P5.out ?_)
        refine CS1.out.mono ?_
        rintro e w6 ⟨rfl, hs, hg⟩
        have H6 := Lib.hid hs
        have K6 := Lib.hid (K5.out.grown hg (fun e => by injection e with e; exact H5.out.map_ne K5.out e.symm))
        have G6 := Lib.hid (only_trans G5.out hg)
        clear hs hg H5 K5 G5 P5 CS1
        have ID1 := Lib.hid (show id < 1024 by have := ID.out; have := MO.out.hi; omega)
        as_aux_lemma =>
          have hid1 := ID1.out
          go_wp2_with fail
          refine (num_fits id 4 w6 (by decide) (by decide) (by omega) (by unfold Oct.rest; omega)).mono ?_
          rintro e w7 ⟨rfl, hw⟩
          have hb : Below w6.heap.size w6 w7 := hw ▸ (Below.refl _ _).alloc (Nat.le_refl _) _
          have H7 := Lib.hid (H6.out.kept hb)
          have K7 := Lib.hid (K6.out.kept hb)
          have G7 := Lib.hid (only_trans G6.out (only_below hb (some b)))
          have DS := Lib.hid (show (⟨#[3]⟩ : ByteArray) ++ Oct.str id 4 = stoD 3 id from rfl)
          have hjj : (j : Int) < 6 := by have := J.out; omega
          clear hb hw H6 K6 G6
          have YB := Lib.hid (byt_one w7 3)
          as_aux_lemma =>
            go_upto_region 22 with (first
              | (refine conv_back rfl _ rfl w7.heap.size ⟨#[3]⟩ 1 1 rfl rfl YB.out ?_)
              | (refine store_cell_at rfl _ _ rfl G4 p j J.out 1 _ rfl rfl (K7.out.alloc _) ?_))
            rw [DS.out]
            have H8 := Lib.hid (H7.out.alloc (.cells #[.int .u8 3] 5))
            have K8 := Lib.hid (K7.out.alloc (.cells #[.int .u8 3] 5))
            have G8 := Lib.hid (only_trans G7.out (only_below ((Below.refl w7.heap.size w7).alloc (Nat.le_refl _) (.cells #[.int .u8 3] 5)) (some b)))
            clear H7 K7 G7 YB DS
            generalize w7.alloc (.cells #[.int .u8 3] 5) = w8 at *
            have HA := setCells_only w8 G4 (4 + j * 2) [.int .i64 1, .string (stoD 3 id)]
            have H9 := Lib.hid (H8.out.grown HA (fun k hk => by cases hk; have := NEG.out; have := GL.out; omega))
            have K9 := Lib.hid (putRow p j J.out 1 (stoD 3 id) K8.out)
            have G9 := Lib.hid (only_new G8.out HA GL.out)
            clear HA H8 K8 G8
            generalize w8.setCells G4 (4 + j * 2) [.int .i64 1, .string (stoD 3 id)] = w9 at *
            obtain ⟨dp, hdp⟩ : ∃ dp, dp = putC p j ⟨1, stoD 3 id⟩ := ⟨_, rfl⟩
            have DO := Lib.hid (show dp.ok by rw [hdp]; exact putC_ok PO.out j _ (by rw [stoD_size]; omega))
            rw [← hdp] at K9
            have HDP := Lib.hid hdp
            clear hdp
            have CS2 := Lib.hid (show Calls Try.prog 25 #[.pointer (some ⟨g, 0, none⟩), .int .i64 0, .agg dp.cs] w9 _ from sv_set H9.out 0 (by have := H2N.out; omega) dp DO.out (by have := HM.out; omega))
            have Y := Lib.hid (fun (w' : World) hs hg => YES.out w' j id J.out J0.out JQ.out ID.out IF.out IA.out (by rw [← HQ.out, ← HDP.out]; exact hs) hg)
            as_aux_lemma =>
              go_wp2_with (refine load_page rfl _ rfl G4 dp rfl K9.out ?_)
              refine CS2.out.mono ?_
              rintro e w10 ⟨rfl, hs, hg⟩
              have Y1 := Lib.hid (Y.out w10 hs (only_trans G9.out hg))
              clear hs hg CS2 H9 K9 G9 Y
              have hjz : (j : Int) < 6 := by have := J.out; omega
              go_wp2
              refine bodyPost_ret (v := .tuple #[.int .i64 ((j : Int) + 1), .int .i64 0]) (by simp [results, Try.results12, go_sem]) rfl ?_
              exact Y1.out
theorem make_bad {g : Nat} (k : Int) (w : World) (h1 : k ≠ 1) (h2 : k ≠ 2) (h3 : k ≠ 3) : Calls Try.prog 12 #[.pointer (some ⟨g, 0, none⟩), .int .i64 k] w fun e w' => e = .returned (.tuple #[.int .i64 0, .int .i64 1]) ∧ w' = w := by
  have b1 : (k != 1) = true := by simp [h1]
  have b2 : (k != 2) = true := by simp [h2]
  have b3 : (k != 3) = true := by simp [h3]
  go_enter Try.func12, Try.ntmps12
  go_wp2
  refine bodyPost_ret (v := .tuple #[.int .i64 0, .int .i64 1]) (by simp [results, Try.results12, go_sem]) rfl ?_
  exact ⟨rfl, rfl⟩
end Go.Proofs.Ytdhfcjplnbnkdaa
