/- A store made. A store forgotten. Plain facts: what is owned after a store was forgotten; a sound directory stays sound. A volume, told plainly: which store each page belongs to, what each place of the directory holds. -/
import Derived.Test.YtelbioooggnbiaaGreatSpcFind
import Derived.Test.YtelbioooggnbiaaGreatOctNum
set_option linter.unusedVariables false
set_option linter.unusedSimpArgs false
namespace Go.Proofs.YtelbioooggnbiaaGreat
open Go.RowKit

def pgK (k s : Int) : Pg := ⟨k, 0, s, 0, fun _ => ⟨0, ⟨#[]⟩⟩⟩
def newPg (kind : Nat) (j : Nat) : Pg := pgK (if kind = 1 then 3 else 4) ((j : Int) + 1)
theorem newPg_ok (kind j : Nat) (hj : j < 6) : (newPg kind j).ok := by
  refine ⟨?_, fun i _ => .inl ⟨rfl, rfl⟩⟩
  unfold Pg.head newPg pgK
  dsimp only
  split <;> omega
theorem putRow (p : Pg) (j : Nat) (hj : j < 6) (st : Int) (d : ByteArray) {w : World} {G : Nat} (hk : Bk w G 38 p.cs) : Bk (w.setCells G (4 + j * 2) [.int .i64 st, .string d]) G 38 (putC p j ⟨st, d⟩).cs := by
  have := Bk.lays [.int .i64 st, .string d] w p.cs (4 + j * 2) hk
  have e : lay p.cs (4 + j * 2) [.int .i64 st, .string d] = (putC p j ⟨st, d⟩).cs := by
    unfold putC Pg.cs
    rcases six hj with h | h | h | h | h | h <;> subst h <;> rfl
  rw [e] at this
  exact this
theorem putC_ok {p : Pg} (h : p.ok) (j : Nat) (d : ByteArray) (hd : d.size ≤ 34) : (putC p j ⟨1, d⟩).ok := by
  refine ⟨h.1, fun i hi => ?_⟩
  show (if i = j then (⟨1, d⟩ : Ce) else p.c i).ok
  by_cases e : i = j
  · rw [if_pos e]; exact .inr ⟨.inl rfl, hd⟩
  · rw [if_neg e]; exact h.2 i hi
theorem byt_one (w : World) (n : UInt8) : Byt (w.alloc (.cells #[.int .u8 n.toNat] 5)) w.heap.size ⟨#[n]⟩ := by
  refine ⟨_, 0, 0, heap_alloc_new w _, .inr rfl, fun j hj => ?_⟩
  have h0 : j = 0 := by have : j < 1 := hj; omega
  subst h0
  rfl
section
variable {ops : Array Oper} {rest : List Oper} {o : Oper} {a : Act} {w : World} {Q : Exit → Act → World → Prop}
theorem build_new (hg : o.guard = none) (x : Operand) (ho : o.op = .build 38 #[(0, .const (.int .i64 4)), (2, x)]) (n : Int) (hx : a.eval x = .int .i64 n) (h : wpList Tryz.prog ops Q rest (a.put o.dst (.agg (pgK 4 n).cs)) w) : wpList Tryz.prog ops Q (o :: rest) a w := by
  refine wpList_plain hg fun K' hK' => ?_
  have hb : (Instr.build 38 #[(0, .int .i64 4), (2, .int .i64 n)]).run Tryz.prog w = .ok (.agg (pgK 4 n).cs) w := by kernel_rfl
  unfold Oper.wp execOp
  simp only [ho, Sem.run_bind, Sem.run_pure, Result.andThen_ok, List.map_toArray, List.map_cons, List.map_nil, hx]
  have hc : a.eval (.const (.int .i64 4)) = .int .i64 4 := rfl
  simp only [hc, hb, Result.andThen_ok]
  exact hK' _ _ h
end
theorem only_new {w w1 w2 : World} {b G : Nat} (h : w.grownBy w1 (some b)) (h2 : w1.grownBy w2 (some G)) (hg : w.heap.size ≤ G) : w.grownBy w2 (some b) :=
  ⟨h2.os.trans h.os, h2.tape.trans h.tape, h2.output.trans h.output, Nat.le_trans h.size h2.size, fun q hq hne => (h2.block q (Nat.lt_of_lt_of_le hq h.size) (fun e => by injection e with e; omega)).trans (h.block q hq hne)⟩
def MakePost (w : World) (B g b gs r N M n : Nat) (und pg : Nat → Pg) (kind : Nat) (e : Ending) (w' : World) : Prop :=
  ((∀ i, i < 6 → ((pg 0).c i).st ≠ 0) ∧ e = .returned (.tuple #[.int .i64 0, .int .i64 192]) ∧ Below w.heap.size w w') ∨
  (∃ j, j < 6 ∧ ((pg 0).c j).st = 0 ∧ (∀ i, i < n → ownB (pg 1) i = true) ∧ e = .returned (.tuple #[.int .i64 0, .int .i64 140]) ∧ Below w.heap.size w w') ∨
  (∃ j id, j < 6 ∧ ((pg 0).c j).st = 0 ∧ (∀ q, q < j → ((pg 0).c q).st ≠ 0) ∧ id < n ∧ ownB (pg 1) id = false ∧ (∀ i, i < id → ownB (pg 1) i = true) ∧
    e = .returned (.tuple #[.int .i64 ((j : Int) + 1), .int .i64 0]) ∧
    SV w' B g b gs r N (M + 3) und (upd (upd (upd pg 1 (mrk (pg 1) id true)) id (newPg kind j)) 0 (putC (pg 0) j ⟨1, stoD kind id⟩)) ∧ w.grownBy w' (some b))
set_option maxRecDepth 100000 in
set_option maxHeartbeats 4000000 in
theorem make_1 {w : World} {B g b gs r N M n : Nat} {und pg : Nat → Pg} (h : SV w B g b gs r N M und pg) (h2 : 2 ≤ N) (hn : n ≤ N) (hk : (pg 0).k = 1) (hok : (pg 0).ok) (hm : MapOk (pg 1) n) (hM : M + 2 < maxLen) :
    Calls Tryz.prog 19 #[.pointer (some ⟨g, 0, none⟩), .int .i64 1] w (MakePost w B g b gs r N M n und pg 1) := by
  have H := Lib.hid h
  have CC := Lib.hid (directory_good h hk)
  have NEG := Lib.hid h.gs_ne
  have HN := Lib.hid hn; have H2N := Lib.hid h2; have HM := Lib.hid hM
  have MO := Lib.hid hm
  obtain ⟨p, hp⟩ : ∃ p, p = pg 0 := ⟨_, rfl⟩
  have HP := Lib.hid hp
  rw [← hp] at CC
  have PO := Lib.hid (show p.ok by rw [hp]; exact hok)
  have CF := Lib.hid (fun (w' : World) => freeCell_any p w')
  have CK := Lib.hid (fun (w' : World) (hs : SV w' B g b gs r N M und pg) => take_good hs h2 hm (by omega))
  have FULL := Lib.hid (fun (w' : World) (ha : ∀ i, i < 6 → (p.c i).st ≠ 0) (hb : Below w.heap.size w w') => show MakePost w B g b gs r N M n und pg 1 (.returned (.tuple #[.int .i64 0, .int .i64 192])) w' from .inl ⟨by rw [← hp]; exact ha, rfl, hb⟩)
  have NONE := Lib.hid (fun (w' : World) (j : Nat) (hj : j < 6) (h0 : (p.c j).st = 0) (ha : ∀ i, i < n → ownB (pg 1) i = true) (hb : Below w.heap.size w w') => show MakePost w B g b gs r N M n und pg 1 (.returned (.tuple #[.int .i64 0, .int .i64 140])) w' from .inr (.inl ⟨j, hj, by rw [← hp]; exact h0, ha, rfl, hb⟩))
  have YES := Lib.hid (fun (w' : World) (j id : Nat) (hj : j < 6) (h0 : (p.c j).st = 0) (hq : ∀ q, q < j → (p.c q).st ≠ 0) (hi : id < n) (h1 : ownB (pg 1) id = false) (ha : ∀ i, i < id → ownB (pg 1) i = true)
      (hs : SV w' B g b gs r N (M + 3) und (upd (upd (upd pg 1 (mrk (pg 1) id true)) id (newPg 1 j)) 0 (putC p j ⟨1, stoD 1 id⟩))) (hg : w.grownBy w' (some b)) => show MakePost w B g b gs r N M n und pg 1 (.returned (.tuple #[.int .i64 ((j : Int) + 1), .int .i64 0])) w' from
    .inr (.inr ⟨j, id, hj, by rw [← hp]; exact h0, by rw [← hp]; exact hq, hi, h1, ha, rfl, by rw [← hp]; exact hs, hg⟩))
  clear h hp hk hok hm hM h2 hn
  go_enter Tryz.func19, Tryz.ntmps19
  go_wp2_with fail
  refine CC.out.mono ?_
  rintro e w1 ⟨rfl, hb⟩
  have hbb := hb.alloc hb.size (.cells p.cs 38)
  have H2 := Lib.hid (H.out.kept hbb)
  have K2 := Lib.hid (Bk.new w1 38 p.cs)
  have B2 := Lib.hid hbb
  obtain ⟨G4, hG4⟩ : ∃ G4, G4 = w1.heap.size := ⟨_, rfl⟩
  rw [← hG4] at K2
  have GL := Lib.hid (show w.heap.size ≤ G4 by rw [hG4]; exact hb.size)
  clear hb hbb CC
  dsimp only
  go_upto_region 6 with (refine store_page_new rfl _ _ rfl p rfl rfl ?_; rw [← hG4]; clear hG4; generalize w1.alloc (.cells p.cs 38) = w2 at *)
  go_wp2_with (refine load_page rfl _ rfl G4 p rfl K2.out ?_)
  refine (CF.out _).mono ?_
  rintro e w3 (⟨ha, rfl, hb⟩ | ⟨j, hj6, h0, hq, rfl, hb⟩)
  · have Y := Lib.hid (FULL.out w3 ha (below_then B2.out hb B2.out.size))
    clear hb ha
    go_wp2
    refine bodyPost_ret (v := .tuple #[.int .i64 0, .int .i64 192]) (by simp [results, Tryz.results19, go_sem]) rfl ?_
    exact Y.out
  have H3 := Lib.hid (H2.out.kept hb)
  have K3 := Lib.hid (K2.out.kept hb)
  have B3 := Lib.hid (below_then B2.out hb B2.out.size)
  have J := Lib.hid hj6; have J0 := Lib.hid h0; have JQ := Lib.hid hq
  clear hb CF H2 K2 B2 hj6 h0 hq
  as_aux_lemma =>
    go_wp2_with fail
    refine (CK.out _ H3.out).mono ?_
    rintro e w4 (⟨ha, rfl, hb⟩ | ⟨id, hid, hf, ha, rfl, hs, hg⟩)
    · have Y := Lib.hid (NONE.out w4 j J.out J0.out ha (below_then B3.out hb B3.out.size))
      clear hb ha
      go_wp2
      refine bodyPost_ret (v := .tuple #[.int .i64 0, .int .i64 140]) (by simp [results, Tryz.results19, go_sem]) rfl ?_
      exact Y.out
    have K4 := Lib.hid (K3.out.grown hg (fun e => by injection e with e; exact H3.out.map_ne K3.out e.symm))
    have G4' := Lib.hid (only_trans (only_below B3.out (some b)) hg)
    have H4 := Lib.hid hs
    have ID := Lib.hid hid; have IF := Lib.hid hf; have IA := Lib.hid ha
    have GS4 := Lib.hid (show w.heap.size ≤ w4.heap.size from Nat.le_trans B3.out.size hg.size)
    clear hs hg hid hf ha H3 K3 B3 CK
    as_aux_lemma =>
      have H5 := Lib.hid (H4.out.alloc (.cells (pgK 4 ((j : Int) + 1)).cs 38))
      have K5 := Lib.hid (K4.out.alloc (.cells (pgK 4 ((j : Int) + 1)).cs 38))
      have P5 := Lib.hid (Bk.new w4 38 (pgK 4 ((j : Int) + 1)).cs)
      obtain ⟨GP, hGP⟩ : ∃ GP, GP = w4.heap.size := ⟨_, rfl⟩
      rw [← hGP] at P5
      have hjw : (j : Int) < 6 := by have := J.out; omega
      go_upto_region 13 with (first | (refine build_new rfl _ rfl ((j : Int) + 1) (by go_num) ?_) | (refine store_page_new rfl _ _ rfl (pgK 4 ((j : Int) + 1)) rfl rfl ?_))
      have HGP := Lib.hid (show w.heap.size ≤ GP ∧ G4 ≠ GP ∧ G4 < GP by have := GS4.out; have := K4.out.lt; omega)
      have G5 := Lib.hid (only_trans G4'.out (only_below ((Below.refl w4.heap.size w4).alloc (Nat.le_refl _) (.cells (pgK 4 ((j : Int) + 1)).cs 38)) (some b)))
      rw [← hGP]
      clear hGP H4 K4 G4' GS4
      generalize w4.alloc (.cells (pgK 4 ((j : Int) + 1)).cs 38) = w5 at *
      have P5o := P5
      have HA := setCells_only w5 GP 0 [.int .i64 3]
      have H5 := Lib.hid (H5.out.grown HA (fun k hk => by cases hk; have := NEG.out; have := HGP.out; omega))
      have K5 := Lib.hid (K5.out.grown HA (fun e => by injection e with e; have := HGP.out; omega))
      have P5a := Lib.hid (Bk.lays [.int .i64 3] w5 (pgK 4 ((j : Int) + 1)).cs 0 P5.out)
      have P5b := Lib.hid (show Bk (w5.setCells GP 0 [.int .i64 3]) GP 38 (newPg 1 j).cs from P5a.out)
      have G5 := Lib.hid (only_new G5.out HA HGP.out.1)
      have P5 := P5b
      clear HA P5a P5b
      have hjy : (j : Int) < 6 := hjw
      have x0 : w5.cell? ⟨GP, 0, none⟩ = some (.int .i64 4) := by rw [P5o.out.cell]; rfl
      have f0 : w5.frozen? ⟨GP, 0, none⟩ = false := P5o.out.fz _
      go_upto_region 15 with fail
      change Code.wp _ _ _ _ (w5.setCells GP 0 [.int .i64 3])
      clear x0 f0 P5o
      generalize w5.setCells GP 0 [.int .i64 3] = w5 at *
      obtain ⟨q, hq⟩ : ∃ q, q = newPg 1 j := ⟨_, rfl⟩
      have HQ := Lib.hid hq
      have QO := Lib.hid (show q.ok by rw [hq]; exact newPg_ok 1 j J.out)
      have P5 := Lib.hid (show Bk w5 GP 38 q.cs by rw [hq]; exact P5.out)
      clear hq
      have CS1 := Lib.hid (show Calls Tryz.prog 16 #[.pointer (some ⟨g, 0, none⟩), .int .i64 id, .agg q.cs] w5 _ from sv_set H5.out id (by have := ID.out; have := HN.out; omega) q QO.out (by have := HM.out; omega))
      as_aux_lemma =>
        go_wp2_with (refine load_page rfl _ rfl GP q rfl P5.out ?_)
        refine CS1.out.mono ?_
        rintro e w6 ⟨rfl, hs, hg⟩
        have H6 := Lib.hid hs
        have K6 := Lib.hid (K5.out.grown hg (fun e => by injection e with e; exact H5.out.map_ne K5.out e.symm))
        have G6 := Lib.hid (only_trans G5.out hg)
        clear hs hg H5 K5 G5 P5 CS1
        have ID1 := Lib.hid (show id < 1024 by have := ID.out; have := MO.out.hi; omega)
        as_aux_lemma =>
          have hid1 := ID1.out
          go_wp2_with fail
          refine (num_fits id 4 w6 (by decide) (by decide) (by omega) (by unfold Oct.rest; omega)).mono ?_
          rintro e w7 ⟨rfl, hw⟩
          have hb : Below w6.heap.size w6 w7 := hw ▸ (Below.refl _ _).alloc (Nat.le_refl _) _
          have H7 := Lib.hid (H6.out.kept hb)
          have K7 := Lib.hid (K6.out.kept hb)
          have G7 := Lib.hid (only_trans G6.out (only_below hb (some b)))
          have DS := Lib.hid (show (⟨#[1]⟩ : ByteArray) ++ Oct.str id 4 = stoD 1 id from rfl)
          have hjj : (j : Int) < 6 := by have := J.out; omega
          clear hb hw H6 K6 G6
          have YB := Lib.hid (byt_one w7 1)
          as_aux_lemma =>
            go_upto_region 22 with (first
              | (refine conv_back rfl _ rfl w7.heap.size ⟨#[1]⟩ 1 1 rfl rfl YB.out ?_)
              | (refine store_cell_at rfl _ _ rfl G4 p j J.out 1 _ rfl rfl (K7.out.alloc _) ?_))
            rw [DS.out]
            have H8 := Lib.hid (H7.out.alloc (.cells #[.int .u8 1] 5))
            have K8 := Lib.hid (K7.out.alloc (.cells #[.int .u8 1] 5))
            have G8 := Lib.hid (only_trans G7.out (only_below ((Below.refl w7.heap.size w7).alloc (Nat.le_refl _) (.cells #[.int .u8 1] 5)) (some b)))
            clear H7 K7 G7 YB DS
            generalize w7.alloc (.cells #[.int .u8 1] 5) = w8 at *
            have HA := setCells_only w8 G4 (4 + j * 2) [.int .i64 1, .string (stoD 1 id)]
            have H9 := Lib.hid (H8.out.grown HA (fun k hk => by cases hk; have := NEG.out; have := GL.out; omega))
            have K9 := Lib.hid (putRow p j J.out 1 (stoD 1 id) K8.out)
            have G9 := Lib.hid (only_new G8.out HA GL.out)
            clear HA H8 K8 G8
            generalize w8.setCells G4 (4 + j * 2) [.int .i64 1, .string (stoD 1 id)] = w9 at *
            obtain ⟨dp, hdp⟩ : ∃ dp, dp = putC p j ⟨1, stoD 1 id⟩ := ⟨_, rfl⟩
            have DO := Lib.hid (show dp.ok by rw [hdp]; exact putC_ok PO.out j _ (by rw [stoD_size]; omega))
            rw [← hdp] at K9
            have HDP := Lib.hid hdp
            clear hdp
            have CS2 := Lib.hid (show Calls Tryz.prog 16 #[.pointer (some ⟨g, 0, none⟩), .int .i64 0, .agg dp.cs] w9 _ from sv_set H9.out 0 (by have := H2N.out; omega) dp DO.out (by have := HM.out; omega))
            have Y := Lib.hid (fun (w' : World) hs hg => YES.out w' j id J.out J0.out JQ.out ID.out IF.out IA.out (by rw [← HQ.out, ← HDP.out]; exact hs) hg)
            as_aux_lemma =>
              go_wp2_with (refine load_page rfl _ rfl G4 dp rfl K9.out ?_)
              refine CS2.out.mono ?_
              rintro e w10 ⟨rfl, hs, hg⟩
              have Y1 := Lib.hid (Y.out w10 hs (only_trans G9.out hg))
              clear hs hg CS2 H9 K9 G9 Y
              have hjz : (j : Int) < 6 := by have := J.out; omega
              go_wp2
              refine bodyPost_ret (v := .tuple #[.int .i64 ((j : Int) + 1), .int .i64 0]) (by simp [results, Tryz.results19, go_sem]) rfl ?_
              exact Y1.out
set_option maxRecDepth 100000 in
set_option maxHeartbeats 4000000 in
theorem make_2 {w : World} {B g b gs r N M n : Nat} {und pg : Nat → Pg} (h : SV w B g b gs r N M und pg) (h2 : 2 ≤ N) (hn : n ≤ N) (hk : (pg 0).k = 1) (hok : (pg 0).ok) (hm : MapOk (pg 1) n) (hM : M + 2 < maxLen) :
    Calls Tryz.prog 19 #[.pointer (some ⟨g, 0, none⟩), .int .i64 2] w (MakePost w B g b gs r N M n und pg 2) := by
  have H := Lib.hid h
  have CC := Lib.hid (directory_good h hk)
  have NEG := Lib.hid h.gs_ne
  have HN := Lib.hid hn; have H2N := Lib.hid h2; have HM := Lib.hid hM
  have MO := Lib.hid hm
  obtain ⟨p, hp⟩ : ∃ p, p = pg 0 := ⟨_, rfl⟩
  have HP := Lib.hid hp
  rw [← hp] at CC
  have PO := Lib.hid (show p.ok by rw [hp]; exact hok)
  have CF := Lib.hid (fun (w' : World) => freeCell_any p w')
  have CK := Lib.hid (fun (w' : World) (hs : SV w' B g b gs r N M und pg) => take_good hs h2 hm (by omega))
  have FULL := Lib.hid (fun (w' : World) (ha : ∀ i, i < 6 → (p.c i).st ≠ 0) (hb : Below w.heap.size w w') => show MakePost w B g b gs r N M n und pg 2 (.returned (.tuple #[.int .i64 0, .int .i64 192])) w' from .inl ⟨by rw [← hp]; exact ha, rfl, hb⟩)
  have NONE := Lib.hid (fun (w' : World) (j : Nat) (hj : j < 6) (h0 : (p.c j).st = 0) (ha : ∀ i, i < n → ownB (pg 1) i = true) (hb : Below w.heap.size w w') => show MakePost w B g b gs r N M n und pg 2 (.returned (.tuple #[.int .i64 0, .int .i64 140])) w' from .inr (.inl ⟨j, hj, by rw [← hp]; exact h0, ha, rfl, hb⟩))
  have YES := Lib.hid (fun (w' : World) (j id : Nat) (hj : j < 6) (h0 : (p.c j).st = 0) (hq : ∀ q, q < j → (p.c q).st ≠ 0) (hi : id < n) (h1 : ownB (pg 1) id = false) (ha : ∀ i, i < id → ownB (pg 1) i = true)
      (hs : SV w' B g b gs r N (M + 3) und (upd (upd (upd pg 1 (mrk (pg 1) id true)) id (newPg 2 j)) 0 (putC p j ⟨1, stoD 2 id⟩))) (hg : w.grownBy w' (some b)) => show MakePost w B g b gs r N M n und pg 2 (.returned (.tuple #[.int .i64 ((j : Int) + 1), .int .i64 0])) w' from
    .inr (.inr ⟨j, id, hj, by rw [← hp]; exact h0, by rw [← hp]; exact hq, hi, h1, ha, rfl, by rw [← hp]; exact hs, hg⟩))
  clear h hp hk hok hm hM h2 hn
  go_enter Tryz.func19, Tryz.ntmps19
  go_wp2_with fail
  refine CC.out.mono ?_
  rintro e w1 ⟨rfl, hb⟩
  have hbb := hb.alloc hb.size (.cells p.cs 38)
  have H2 := Lib.hid (H.out.kept hbb)
  have K2 := Lib.hid (Bk.new w1 38 p.cs)
  have B2 := Lib.hid hbb
  obtain ⟨G4, hG4⟩ : ∃ G4, G4 = w1.heap.size := ⟨_, rfl⟩
  rw [← hG4] at K2
  have GL := Lib.hid (show w.heap.size ≤ G4 by rw [hG4]; exact hb.size)
  clear hb hbb CC
  dsimp only
  go_upto_region 6 with (refine store_page_new rfl _ _ rfl p rfl rfl ?_; rw [← hG4]; clear hG4; generalize w1.alloc (.cells p.cs 38) = w2 at *)
  go_wp2_with (refine load_page rfl _ rfl G4 p rfl K2.out ?_)
  refine (CF.out _).mono ?_
  rintro e w3 (⟨ha, rfl, hb⟩ | ⟨j, hj6, h0, hq, rfl, hb⟩)
  · have Y := Lib.hid (FULL.out w3 ha (below_then B2.out hb B2.out.size))
    clear hb ha
    go_wp2
    refine bodyPost_ret (v := .tuple #[.int .i64 0, .int .i64 192]) (by simp [results, Tryz.results19, go_sem]) rfl ?_
    exact Y.out
  have H3 := Lib.hid (H2.out.kept hb)
  have K3 := Lib.hid (K2.out.kept hb)
  have B3 := Lib.hid (below_then B2.out hb B2.out.size)
  have J := Lib.hid hj6; have J0 := Lib.hid h0; have JQ := Lib.hid hq
  clear hb CF H2 K2 B2 hj6 h0 hq
  as_aux_lemma =>
    go_wp2_with fail
    refine (CK.out _ H3.out).mono ?_
    rintro e w4 (⟨ha, rfl, hb⟩ | ⟨id, hid, hf, ha, rfl, hs, hg⟩)
    · have Y := Lib.hid (NONE.out w4 j J.out J0.out ha (below_then B3.out hb B3.out.size))
      clear hb ha
      go_wp2
      refine bodyPost_ret (v := .tuple #[.int .i64 0, .int .i64 140]) (by simp [results, Tryz.results19, go_sem]) rfl ?_
      exact Y.out
    have K4 := Lib.hid (K3.out.grown hg (fun e => by injection e with e; exact H3.out.map_ne K3.out e.symm))
    have G4' := Lib.hid (only_trans (only_below B3.out (some b)) hg)
    have H4 := Lib.hid hs
    have ID := Lib.hid hid; have IF := Lib.hid hf; have IA := Lib.hid ha
    have GS4 := Lib.hid (show w.heap.size ≤ w4.heap.size from Nat.le_trans B3.out.size hg.size)
    clear hs hg hid hf ha H3 K3 B3 CK
    as_aux_lemma =>
      have H5 := Lib.hid (H4.out.alloc (.cells (pgK 4 ((j : Int) + 1)).cs 38))
      have K5 := Lib.hid (K4.out.alloc (.cells (pgK 4 ((j : Int) + 1)).cs 38))
      have P5 := Lib.hid (Bk.new w4 38 (pgK 4 ((j : Int) + 1)).cs)
      obtain ⟨GP, hGP⟩ : ∃ GP, GP = w4.heap.size := ⟨_, rfl⟩
      rw [← hGP] at P5
      have hjw : (j : Int) < 6 := by have := J.out; omega
      go_upto_region 13 with (first | (refine build_new rfl _ rfl ((j : Int) + 1) (by go_num) ?_) | (refine store_page_new rfl _ _ rfl (pgK 4 ((j : Int) + 1)) rfl rfl ?_))
      have HGP := Lib.hid (show w.heap.size ≤ GP ∧ G4 ≠ GP ∧ G4 < GP by have := GS4.out; have := K4.out.lt; omega)
      have G5 := Lib.hid (only_trans G4'.out (only_below ((Below.refl w4.heap.size w4).alloc (Nat.le_refl _) (.cells (pgK 4 ((j : Int) + 1)).cs 38)) (some b)))
      rw [← hGP]
      clear hGP H4 K4 G4' GS4
      generalize w4.alloc (.cells (pgK 4 ((j : Int) + 1)).cs 38) = w5 at *
      obtain ⟨q, hq⟩ : ∃ q, q = newPg 2 j := ⟨_, rfl⟩
      have HQ := Lib.hid hq
      have QO := Lib.hid (show q.ok by rw [hq]; exact newPg_ok 2 j J.out)
      have P5 := Lib.hid (show Bk w5 GP 38 q.cs by rw [hq]; exact P5.out)
      clear hq
      have CS1 := Lib.hid (show Calls Tryz.prog 16 #[.pointer (some ⟨g, 0, none⟩), .int .i64 id, .agg q.cs] w5 _ from sv_set H5.out id (by have := ID.out; have := HN.out; omega) q QO.out (by have := HM.out; omega))
      as_aux_lemma =>
        go_wp2_with (refine load_page rfl _ rfl GP q rfl P5.out ?_)
        refine CS1.out.mono ?_
        rintro e w6 ⟨rfl, hs, hg⟩
        have H6 := Lib.hid hs
        have K6 := Lib.hid (K5.out.grown hg (fun e => by injection e with e; exact H5.out.map_ne K5.out e.symm))
        have G6 := Lib.hid (only_trans G5.out hg)
        clear hs hg H5 K5 G5 P5 CS1
        have ID1 := Lib.hid (show id < 1024 by have := ID.out; have := MO.out.hi; omega)
        as_aux_lemma =>
          have hid1 := ID1.out
          go_wp2_with fail
          refine (num_fits id 4 w6 (by decide) (by decide) (by omega) (by unfold Oct.rest; omega)).mono ?_
          rintro e w7 ⟨rfl, hw⟩
          have hb : Below w6.heap.size w6 w7 := hw ▸ (Below.refl _ _).alloc (Nat.le_refl _) _
          have H7 := Lib.hid (H6.out.kept hb)
          have K7 := Lib.hid (K6.out.kept hb)
          have G7 := Lib.hid (only_trans G6.out (only_below hb (some b)))
          have DS := Lib.hid (show (⟨#[2]⟩ : ByteArray) ++ Oct.str id 4 = stoD 2 id from rfl)
          have hjj : (j : Int) < 6 := by have := J.out; omega
          clear hb hw H6 K6 G6
          have YB := Lib.hid (byt_one w7 2)
          as_aux_lemma =>
            go_upto_region 22 with (first
              | (refine conv_back rfl _ rfl w7.heap.size ⟨#[2]⟩ 1 1 rfl rfl YB.out ?_)
              | (refine store_cell_at rfl _ _ rfl G4 p j J.out 1 _ rfl rfl (K7.out.alloc _) ?_))
            rw [DS.out]
            have H8 := Lib.hid (H7.out.alloc (.cells #[.int .u8 2] 5))
            have K8 := Lib.hid (K7.out.alloc (.cells #[.int .u8 2] 5))
            have G8 := Lib.hid (only_trans G7.out (only_below ((Below.refl w7.heap.size w7).alloc (Nat.le_refl _) (.cells #[.int .u8 2] 5)) (some b)))
            clear H7 K7 G7 YB DS
            generalize w7.alloc (.cells #[.int .u8 2] 5) = w8 at *
            have HA := setCells_only w8 G4 (4 + j * 2) [.int .i64 1, .string (stoD 2 id)]
            have H9 := Lib.hid (H8.out.grown HA (fun k hk => by cases hk; have := NEG.out; have := GL.out; omega))
            have K9 := Lib.hid (putRow p j J.out 1 (stoD 2 id) K8.out)
            have G9 := Lib.hid (only_new G8.out HA GL.out)
            clear HA H8 K8 G8
            generalize w8.setCells G4 (4 + j * 2) [.int .i64 1, .string (stoD 2 id)] = w9 at *
            obtain ⟨dp, hdp⟩ : ∃ dp, dp = putC p j ⟨1, stoD 2 id⟩ := ⟨_, rfl⟩
            have DO := Lib.hid (show dp.ok by rw [hdp]; exact putC_ok PO.out j _ (by rw [stoD_size]; omega))
            rw [← hdp] at K9
            have HDP := Lib.hid hdp
            clear hdp
            have CS2 := Lib.hid (show Calls Tryz.prog 16 #[.pointer (some ⟨g, 0, none⟩), .int .i64 0, .agg dp.cs] w9 _ from sv_set H9.out 0 (by have := H2N.out; omega) dp DO.out (by have := HM.out; omega))
            have Y := Lib.hid (fun (w' : World) hs hg => YES.out w' j id J.out J0.out JQ.out ID.out IF.out IA.out (by rw [← HQ.out, ← HDP.out]; exact hs) hg)
            as_aux_lemma =>
              go_wp2_with (refine load_page rfl _ rfl G4 dp rfl K9.out ?_)
              refine CS2.out.mono ?_
              rintro e w10 ⟨rfl, hs, hg⟩
              have Y1 := Lib.hid (Y.out w10 hs (only_trans G9.out hg))
              clear hs hg CS2 H9 K9 G9 Y
              have hjz : (j : Int) < 6 := by have := J.out; omega
              go_wp2
              refine bodyPost_ret (v := .tuple #[.int .i64 ((j : Int) + 1), .int .i64 0]) (by simp [results, Tryz.results19, go_sem]) rfl ?_
              exact Y1.out
set_option maxRecDepth 100000 in
set_option maxHeartbeats 4000000 in
theorem make_3 {w : World} {B g b gs r N M n : Nat} {und pg : Nat → Pg} (h : SV w B g b gs r N M und pg) (h2 : 2 ≤ N) (hn : n ≤ N) (hk : (pg 0).k = 1) (hok : (pg 0).ok) (hm : MapOk (pg 1) n) (hM : M + 2 < maxLen) :
    Calls Tryz.prog 19 #[.pointer (some ⟨g, 0, none⟩), .int .i64 3] w (MakePost w B g b gs r N M n und pg 3) := by
  have H := Lib.hid h
  have CC := Lib.hid (directory_good h hk)
  have NEG := Lib.hid h.gs_ne
  have HN := Lib.hid hn; have H2N := Lib.hid h2; have HM := Lib.hid hM
  have MO := Lib.hid hm
  obtain ⟨p, hp⟩ : ∃ p, p = pg 0 := ⟨_, rfl⟩
  have HP := Lib.hid hp
  rw [← hp] at CC
  have PO := Lib.hid (show p.ok by rw [hp]; exact hok)
  have CF := Lib.hid (fun (w' : World) => freeCell_any p w')
  have CK := Lib.hid (fun (w' : World) (hs : SV w' B g b gs r N M und pg) => take_good hs h2 hm (by omega))
  have FULL := Lib.hid (fun (w' : World) (ha : ∀ i, i < 6 → (p.c i).st ≠ 0) (hb : Below w.heap.size w w') => show MakePost w B g b gs r N M n und pg 3 (.returned (.tuple #[.int .i64 0, .int .i64 192])) w' from .inl ⟨by rw [← hp]; exact ha, rfl, hb⟩)
  have NONE := Lib.hid (fun (w' : World) (j : Nat) (hj : j < 6) (h0 : (p.c j).st = 0) (ha : ∀ i, i < n → ownB (pg 1) i = true) (hb : Below w.heap.size w w') => show MakePost w B g b gs r N M n und pg 3 (.returned (.tuple #[.int .i64 0, .int .i64 140])) w' from .inr (.inl ⟨j, hj, by rw [← hp]; exact h0, ha, rfl, hb⟩))
  have YES := Lib.hid (fun (w' : World) (j id : Nat) (hj : j < 6) (h0 : (p.c j).st = 0) (hq : ∀ q, q < j → (p.c q).st ≠ 0) (hi : id < n) (h1 : ownB (pg 1) id = false) (ha : ∀ i, i < id → ownB (pg 1) i = true)
      (hs : SV w' B g b gs r N (M + 3) und (upd (upd (upd pg 1 (mrk (pg 1) id true)) id (newPg 3 j)) 0 (putC p j ⟨1, stoD 3 id⟩))) (hg : w.grownBy w' (some b)) => show MakePost w B g b gs r N M n und pg 3 (.returned (.tuple #[.int .i64 ((j : Int) + 1), .int .i64 0])) w' from
    .inr (.inr ⟨j, id, hj, by rw [← hp]; exact h0, by rw [← hp]; exact hq, hi, h1, ha, rfl, by rw [← hp]; exact hs, hg⟩))
  clear h hp hk hok hm hM h2 hn
  go_enter Tryz.func19, Tryz.ntmps19
  go_wp2_with fail
  refine CC.out.mono ?_
  rintro e w1 ⟨rfl, hb⟩
  have hbb := hb.alloc hb.size (.cells p.cs 38)
  have H2 := Lib.hid (H.out.kept hbb)
  have K2 := Lib.hid (Bk.new w1 38 p.cs)
  have B2 := Lib.hid hbb
  obtain ⟨G4, hG4⟩ : ∃ G4, G4 = w1.heap.size := ⟨_, rfl⟩
  rw [← hG4] at K2
  have GL := Lib.hid (show w.heap.size ≤ G4 by rw [hG4]; exact hb.size)
  clear hb hbb CC
  dsimp only
  go_upto_region 6 with (refine store_page_new rfl _ _ rfl p rfl rfl ?_; rw [← hG4]; clear hG4; generalize w1.alloc (.cells p.cs 38) = w2 at *)
  go_wp2_with (refine load_page rfl _ rfl G4 p rfl K2.out ?_)
  refine (CF.out _).mono ?_
  rintro e w3 (⟨ha, rfl, hb⟩ | ⟨j, hj6, h0, hq, rfl, hb⟩)
  · have Y := Lib.hid (FULL.out w3 ha (below_then B2.out hb B2.out.size))
    clear hb ha
    go_wp2
    refine bodyPost_ret (v := .tuple #[.int .i64 0, .int .i64 192]) (by simp [results, Tryz.results19, go_sem]) rfl ?_
    exact Y.out
  have H3 := Lib.hid (H2.out.kept hb)
  have K3 := Lib.hid (K2.out.kept hb)
  have B3 := Lib.hid (below_then B2.out hb B2.out.size)
  have J := Lib.hid hj6; have J0 := Lib.hid h0; have JQ := Lib.hid hq
  clear hb CF H2 K2 B2 hj6 h0 hq
  as_aux_lemma =>
    go_wp2_with fail
    refine (CK.out _ H3.out).mono ?_
    rintro e w4 (⟨ha, rfl, hb⟩ | ⟨id, hid, hf, ha, rfl, hs, hg⟩)
    · have Y := Lib.hid (NONE.out w4 j J.out J0.out ha (below_then B3.out hb B3.out.size))
      clear hb ha
      go_wp2
      refine bodyPost_ret (v := .tuple #[.int .i64 0, .int .i64 140]) (by simp [results, Tryz.results19, go_sem]) rfl ?_
      exact Y.out
    have K4 := Lib.hid (K3.out.grown hg (fun e => by injection e with e; exact H3.out.map_ne K3.out e.symm))
    have G4' := Lib.hid (only_trans (only_below B3.out (some b)) hg)
    have H4 := Lib.hid hs
    have ID := Lib.hid hid; have IF := Lib.hid hf; have IA := Lib.hid ha
    have GS4 := Lib.hid (show w.heap.size ≤ w4.heap.size from Nat.le_trans B3.out.size hg.size)
    clear hs hg hid hf ha H3 K3 B3 CK
    as_aux_lemma =>
      have H5 := Lib.hid (H4.out.alloc (.cells (pgK 4 ((j : Int) + 1)).cs 38))
      have K5 := Lib.hid (K4.out.alloc (.cells (pgK 4 ((j : Int) + 1)).cs 38))
      have P5 := Lib.hid (Bk.new w4 38 (pgK 4 ((j : Int) + 1)).cs)
      obtain ⟨GP, hGP⟩ : ∃ GP, GP = w4.heap.size := ⟨_, rfl⟩
      rw [← hGP] at P5
      have hjw : (j : Int) < 6 := by have := J.out; omega
      go_upto_region 13 with (first | (refine build_new rfl _ rfl ((j : Int) + 1) (by go_num) ?_) | (refine store_page_new rfl _ _ rfl (pgK 4 ((j : Int) + 1)) rfl rfl ?_))
      have HGP := Lib.hid (show w.heap.size ≤ GP ∧ G4 ≠ GP ∧ G4 < GP by have := GS4.out; have := K4.out.lt; omega)
      have G5 := Lib.hid (only_trans G4'.out (only_below ((Below.refl w4.heap.size w4).alloc (Nat.le_refl _) (.cells (pgK 4 ((j : Int) + 1)).cs 38)) (some b)))
      rw [← hGP]
      clear hGP H4 K4 G4' GS4
      generalize w4.alloc (.cells (pgK 4 ((j : Int) + 1)).cs 38) = w5 at *
      obtain ⟨q, hq⟩ : ∃ q, q = newPg 3 j := ⟨_, rfl⟩
      have HQ := Lib.hid hq
      have QO := Lib.hid (show q.ok by rw [hq]; exact newPg_ok 3 j J.out)
      have P5 := Lib.hid (show Bk w5 GP 38 q.cs by rw [hq]; exact P5.out)
      clear hq
      have CS1 := Lib.hid (show Calls Tryz.prog 16 #[.pointer (some ⟨g, 0, none⟩), .int .i64 id, .agg q.cs] w5 _ from sv_set H5.out id (by have := ID.out; have := HN.out; omega) q QO.out (by have := HM.out; omega))
      as_aux_lemma =>
        go_wp2_with (refine load_page rfl _ rfl GP q rfl P5.out ?_)
        refine CS1.out.mono ?_
        rintro e w6 ⟨rfl, hs, hg⟩
        have H6 := Lib.hid hs
        have K6 := Lib.hid (K5.out.grown hg (fun e => by injection e with e; exact H5.out.map_ne K5.out e.symm))
        have G6 := Lib.hid (only_trans G5.out hg)
        clear hs hg H5 K5 G5 P5 CS1
        have ID1 := Lib.hid (show id < 1024 by have := ID.out; have := MO.out.hi; omega)
        as_aux_lemma =>
          have hid1 := ID1.out
          go_wp2_with fail
          refine (num_fits id 4 w6 (by decide) (by decide) (by omega) (by unfold Oct.rest; omega)).mono ?_
          rintro e w7 ⟨rfl, hw⟩
          have hb : Below w6.heap.size w6 w7 := hw ▸ (Below.refl _ _).alloc (Nat.le_refl _) _
          have H7 := Lib.hid (H6.out.kept hb)
          have K7 := Lib.hid (K6.out.kept hb)
          have G7 := Lib.hid (only_trans G6.out (only_below hb (some b)))
          have DS := Lib.hid (show (⟨#[3]⟩ : ByteArray) ++ Oct.str id 4 = stoD 3 id from rfl)
          have hjj : (j : Int) < 6 := by have := J.out; omega
          clear hb hw H6 K6 G6
          have YB := Lib.hid (byt_one w7 3)
          as_aux_lemma =>
            go_upto_region 22 with (first
              | (refine conv_back rfl _ rfl w7.heap.size ⟨#[3]⟩ 1 1 rfl rfl YB.out ?_)
              | (refine store_cell_at rfl _ _ rfl G4 p j J.out 1 _ rfl rfl (K7.out.alloc _) ?_))
            rw [DS.out]
            have H8 := Lib.hid (H7.out.alloc (.cells #[.int .u8 3] 5))
            have K8 := Lib.hid (K7.out.alloc (.cells #[.int .u8 3] 5))
            have G8 := Lib.hid (only_trans G7.out (only_below ((Below.refl w7.heap.size w7).alloc (Nat.le_refl _) (.cells #[.int .u8 3] 5)) (some b)))
            clear H7 K7 G7 YB DS
            generalize w7.alloc (.cells #[.int .u8 3] 5) = w8 at *
            have HA := setCells_only w8 G4 (4 + j * 2) [.int .i64 1, .string (stoD 3 id)]
            have H9 := Lib.hid (H8.out.grown HA (fun k hk => by cases hk; have := NEG.out; have := GL.out; omega))
            have K9 := Lib.hid (putRow p j J.out 1 (stoD 3 id) K8.out)
            have G9 := Lib.hid (only_new G8.out HA GL.out)
            clear HA H8 K8 G8
            generalize w8.setCells G4 (4 + j * 2) [.int .i64 1, .string (stoD 3 id)] = w9 at *
            obtain ⟨dp, hdp⟩ : ∃ dp, dp = putC p j ⟨1, stoD 3 id⟩ := ⟨_, rfl⟩
            have DO := Lib.hid (show dp.ok by rw [hdp]; exact putC_ok PO.out j _ (by rw [stoD_size]; omega))
            rw [← hdp] at K9
            have HDP := Lib.hid hdp
            clear hdp
            have CS2 := Lib.hid (show Calls Tryz.prog 16 #[.pointer (some ⟨g, 0, none⟩), .int .i64 0, .agg dp.cs] w9 _ from sv_set H9.out 0 (by have := H2N.out; omega) dp DO.out (by have := HM.out; omega))
            have Y := Lib.hid (fun (w' : World) hs hg => YES.out w' j id J.out J0.out JQ.out ID.out IF.out IA.out (by rw [← HQ.out, ← HDP.out]; exact hs) hg)
            as_aux_lemma =>
              go_wp2_with (refine load_page rfl _ rfl G4 dp rfl K9.out ?_)
              refine CS2.out.mono ?_
              rintro e w10 ⟨rfl, hs, hg⟩
              have Y1 := Lib.hid (Y.out w10 hs (only_trans G9.out hg))
              clear hs hg CS2 H9 K9 G9 Y
              have hjz : (j : Int) < 6 := by have := J.out; omega
              go_wp2
              refine bodyPost_ret (v := .tuple #[.int .i64 ((j : Int) + 1), .int .i64 0]) (by simp [results, Tryz.results19, go_sem]) rfl ?_
              exact Y1.out
theorem make_bad {g : Nat} (k : Int) (w : World) (h1 : k ≠ 1) (h2 : k ≠ 2) (h3 : k ≠ 3) : Calls Tryz.prog 19 #[.pointer (some ⟨g, 0, none⟩), .int .i64 k] w fun e w' => e = .returned (.tuple #[.int .i64 0, .int .i64 1]) ∧ w' = w := by
  have b1 : (k != 1) = true := by simp [h1]
  have b2 : (k != 2) = true := by simp [h2]
  have b3 : (k != 3) = true := by simp [h3]
  go_enter Tryz.func19, Tryz.ntmps19
  go_wp2
  refine bodyPost_ret (v := .tuple #[.int .i64 0, .int .i64 1]) (by simp [results, Tryz.results19, go_sem]) rfl ?_
  exact ⟨rfl, rfl⟩
end Go.Proofs.YtelbioooggnbiaaGreat
namespace Go.Proofs.YtelbioooggnbiaaGreat
open Go.RowKit

/-- The map on which the pages of a store below i are given back. -/
def fgt (pg : Nat → Pg) (s : Int) (m : Pg) : Nat → Pg
  | 0 => m
  | i + 1 => if 2 ≤ i ∧ ownB (fgt pg s m i) i = true ∧ (pg i).s = s then mrk (fgt pg s m i) i false else fgt pg s m i
theorem fgt_ok {m : Pg} {n : Nat} (h : MapOk m n) (pg : Nat → Pg) (s : Int) : ∀ i, MapOk (fgt pg s m i) n
  | 0 => h
  | i + 1 => by
    unfold fgt
    split
    · exact (fgt_ok h pg s i).mrk i false
    · exact fgt_ok h pg s i
theorem fgt_two (pg : Nat → Pg) (s : Int) (m : Pg) : fgt pg s m 2 = m := by
  unfold fgt fgt fgt
  simp
def ForgetPost (w : World) (B g b gs r N M n : Nat) (und pg : Nat → Pg) (s : Int) (e : Ending) (w' : World) : Prop :=
  (¬ thereP (pg 0) s ∧ e = .returned (.int .i64 1) ∧ Below w.heap.size w w') ∨
  (thereP (pg 0) s ∧ e = .returned (.int .i64 0) ∧ SV w' B g b gs r N (M + 2) und (upd (upd pg 1 (fgt pg s (pg 1) n)) 0 (putC (pg 0) (s - 1).toNat ⟨0, ⟨#[]⟩⟩)) ∧ w.grownBy w' (some b))
open Classical in
set_option maxRecDepth 100000 in
set_option maxHeartbeats 4000000 in
theorem forget_good {w : World} {B g b gs r N M n : Nat} {und pg : Nat → Pg} (h : SV w B g b gs r N M und pg) (h2 : 2 ≤ N) (hn : n ≤ N) (hk : (pg 0).k = 1) (hok : (pg 0).ok) (hm : MapOk (pg 1) n) (hM : M + 1 < maxLen) (s : Int) :
    Calls Tryz.prog 28 #[.pointer (some ⟨g, 0, none⟩), .int .i64 s] w (ForgetPost w B g b gs r N M n und pg s) := by
  have H := Lib.hid h
  have CC := Lib.hid (directory_good h hk)
  have NEG := Lib.hid h.gs_ne
  have HN := Lib.hid hn; have H2N := Lib.hid h2; have HM := Lib.hid hM
  have MO := Lib.hid (fun i => fgt_ok hm pg s i)
  have MC := Lib.hid (fun (w' : World) (hs : SV w' B g b gs r N M und pg) => chart_good hs h2 hm.ch)
  obtain ⟨p, hp⟩ : ∃ p, p = pg 0 := ⟨_, rfl⟩
  obtain ⟨m, hmm⟩ : ∃ m, m = pg 1 := ⟨_, rfl⟩
  have HP := Lib.hid hp
  rw [← hp] at CC
  rw [← hmm] at MO MC
  have PO := Lib.hid (show p.ok by rw [hp]; exact hok)
  have CT := Lib.hid (fun (w' : World) => there_any p s w')
  have NO := Lib.hid (fun (w' : World) (ha : ¬ thereP p s) (hb : Below w.heap.size w w') => show ForgetPost w B g b gs r N M n und pg s (.returned (.int .i64 1)) w' from .inl ⟨by rw [← hp]; exact ha, rfl, hb⟩)
  have YES := Lib.hid (fun (w' : World) (ha : thereP p s) (hs : SV w' B g b gs r N (M + 2) und (upd (upd pg 1 (fgt pg s m n)) 0 (putC p (s - 1).toNat ⟨0, ⟨#[]⟩⟩))) (hg : w.grownBy w' (some b)) => show ForgetPost w B g b gs r N M n und pg s (.returned (.int .i64 0)) w' from .inr ⟨by rw [← hp]; exact ha, rfl, by rw [← hp, ← hmm]; exact hs, hg⟩)
  clear h hp hmm hk hok hm hM h2 hn
  go_enter Tryz.func28, Tryz.ntmps28
  go_wp2_with fail
  refine CC.out.mono ?_
  rintro e w1 ⟨rfl, hb⟩
  have hbb := hb.alloc hb.size (.cells p.cs 38)
  have H2 := Lib.hid (H.out.kept hbb)
  have K2 := Lib.hid (Bk.new w1 38 p.cs)
  have B2 := Lib.hid hbb
  obtain ⟨G4, hG4⟩ : ∃ G4, G4 = w1.heap.size := ⟨_, rfl⟩
  rw [← hG4] at K2
  have GL := Lib.hid (show w.heap.size ≤ G4 by rw [hG4]; exact hb.size)
  clear hb hbb CC
  dsimp only
  go_upto_region 4 with (refine store_page_new rfl _ _ rfl p rfl rfl ?_; rw [← hG4]; clear hG4; generalize w1.alloc (.cells p.cs 38) = w2 at *)
  go_wp2_with (refine load_page rfl _ rfl G4 p rfl K2.out ?_)
  refine (CT.out _).mono ?_
  rintro e w3 ⟨rfl, hb⟩
  have H3 := Lib.hid (H2.out.kept hb)
  have K3 := Lib.hid (K2.out.kept hb)
  have B3 := Lib.hid (below_then B2.out hb B2.out.size)
  clear hb CT H2 K2 B2
  by_cases ht : thereP p s
  rotate_left
  · rw [decide_eq_false ht]
    have Y := Lib.hid (NO.out w3 ht B3.out)
    go_wp2
    go_ret
    exact Y.out
  rw [decide_eq_true ht]
  have J := Lib.hid ht
  clear ht NO
  as_aux_lemma =>
    go_wp2_with fail
    refine (MC.out w3 H3.out).mono ?_
    rintro e w4 ⟨rfl, hb⟩
    have hbb := hb.alloc hb.size (.cells m.cs 38)
    have H5 := Lib.hid (H3.out.kept hbb)
    have K5 := Lib.hid (K3.out.kept hbb)
    have B5 := Lib.hid (below_then B3.out hbb B3.out.size)
    have M5 := Lib.hid (Bk.new w4 38 m.cs)
    obtain ⟨G7, hG7⟩ : ∃ G7, G7 = w4.heap.size := ⟨_, rfl⟩
    rw [← hG7] at M5
    have GM := Lib.hid (show G4 < G7 ∧ w.heap.size ≤ G7 by rw [hG7]; exact ⟨(K3.out.kept hb).lt, Nat.le_trans B3.out.size hb.size⟩)
    clear hb hbb MC H3 K3 B3
    dsimp only
    go_upto_region 9 with (refine store_page_new rfl _ _ rfl m rfl rfl ?_; rw [← hG7]; clear hG7; generalize w4.alloc (.cells m.cs 38) = w5 at *)
    as_aux_lemma =>
      go_wp2_with fail
      go_loopw [8] (fun i wr => ∃ j : Nat, 2 ≤ j ∧ j ≤ n ∧ i = .int .i64 j ∧ SV wr B g b gs r N M und pg ∧ Bk wr G4 38 p.cs ∧ Bk wr G7 38 (fgt pg s m j).cs ∧ Below w.heap.size w wr) (fun i _ => n - (RowKit.intOf i).toNat)
      case atStart => exact ⟨2, Nat.le_refl _, by have := (MO.out 0).lo; omega, rfl, H5.out, K5.out, by rw [fgt_two]; exact M5.out, B5.out⟩
      case round =>
        obtain ⟨j, hj2, hj, rfl, hs, hk, hq, hb⟩ := hrel
        have H6 := Lib.hid hs; have K6 := Lib.hid hk; have M6 := Lib.hid hq; have B6 := Lib.hid hb
        have J2 := Lib.hid hj2; have JN := Lib.hid hj
        clear hs hk hq hb H5 K5 M5 B5
        obtain ⟨q, hq⟩ : ∃ q, q = fgt pg s m j := ⟨_, rfl⟩
        have MQ := Lib.hid (show MapOk q n by rw [hq]; exact MO.out j)
        rw [← hq] at M6
        have HQ := Lib.hid hq
        have CN := Lib.hid (fun (w' : World) => count_any q w' (by have := MQ.out.num; have := MQ.out.lo; have := MQ.out.hi; omega))
        rw [show q.n + 1 = (n : Int) by have := MQ.out.num; omega] at CN
        clear hq
        go_wp2_with (refine load_page rfl _ rfl G7 q rfl M6.out ?_)
        refine (CN.out _).mono ?_
        rintro e w7 ⟨rfl, hb⟩
        have H7 := Lib.hid (H6.out.kept hb); have K7 := Lib.hid (K6.out.kept hb); have M7 := Lib.hid (M6.out.kept hb); have B7 := Lib.hid (below_then B6.out hb B6.out.size)
        clear hb CN H6 K6 M6 B6
        by_cases hlt : j < n
        · have HLT := Lib.hid hlt
          have hjb : j < 1024 := by have := MQ.out.hi; omega
          have hjn : (j : Int) < (n : Int) := by omega
          have CO := Lib.hid (fun (w' : World) => owned_any q j w' (by omega) (MQ.out.ch.2 _ (by omega)))
          have CM := Lib.hid (fun (w' : World) => mark_any q j false w' (by omega) (MQ.out.ch.2 _ (by omega)))
          have CG := Lib.hid (fun (w' : World) (hs : SV w' B g b gs r N M und pg) => sv_get hs j (by have := HN.out; omega))
          as_aux_lemma =>
            go_wp2_with (refine load_page rfl _ rfl G7 q rfl M7.out ?_)
            refine (CO.out _).mono ?_
            rintro e w8 ⟨rfl, hb⟩
            have H8 := Lib.hid (H7.out.kept hb); have K8 := Lib.hid (K7.out.kept hb); have M8 := Lib.hid (M7.out.kept hb); have B8 := Lib.hid (below_then B7.out hb B7.out.size)
            clear hb CO H7 K7 M7 B7
            have hjz : (j : Int) + 1 < 9223372036854775807 := by omega
            by_cases ho : ownB q j = true
            · have OW := Lib.hid ho
              rw [ho]
              clear ho
              go_wp2_with fail
              refine (CG.out _ H8.out).mono ?_
              rintro e w9 ⟨rfl, hb⟩
              obtain ⟨pj, hpj⟩ : ∃ pj, pj = pg j := ⟨_, rfl⟩
              rw [← hpj]
              have HPJ := Lib.hid hpj
              clear hpj
              have hbb := hb.alloc hb.size (.cells pj.cs 38)
              have H9 := Lib.hid (H8.out.kept hbb); have K9 := Lib.hid (K8.out.kept hbb); have M9 := Lib.hid (M8.out.kept hbb); have B9 := Lib.hid (below_then B8.out hbb B8.out.size)
              have P9 := Lib.hid (Bk.new w9 38 pj.cs)
              obtain ⟨G9, hG9⟩ : ∃ G9, G9 = w9.heap.size := ⟨_, rfl⟩
              rw [← hG9] at P9
              clear hb hbb CG H8 K8 M8 B8
              dsimp only
              go_upto_region 14 with (refine store_page_new rfl _ _ rfl pj rfl rfl ?_; rw [← hG9]; clear hG9; generalize w9.alloc (.cells pj.cs 38) = w10 at *)
              have x2 : w10.cell? ⟨G9, 2, none⟩ = some (.int .i64 pj.s) := by rw [P9.out.cell]; rfl
              by_cases he : pj.s = s
              · have FQ := Lib.hid (show fgt pg s m (j + 1) = mrk q j false by
                  unfold fgt
                  rw [← HQ.out, if_pos ⟨J2.out, OW.out, by rw [← HPJ.out]; exact he⟩])
                have heb : (pj.s == s) = true := by simp [he]
                go_wp2_with (refine load_page rfl _ rfl G7 q rfl M9.out ?_)
                refine (CM.out _).mono ?_
                rintro e w11 ⟨rfl, hb⟩
                have H11 := Lib.hid (H9.out.kept hb); have K11 := Lib.hid (K9.out.kept hb); have M11 := Lib.hid (M9.out.kept hb); have B11 := Lib.hid (below_then B9.out hb B9.out.size)
                obtain ⟨mq, hmq⟩ : ∃ mq, mq = mrk q j false := ⟨_, rfl⟩
                rw [← hmq] at FQ ⊢
                clear hb CM H9 K9 M9 B9 P9 hmq x2
                have hg : w11.grownBy (w11.setRow G7 mq.cs) (some G7) := ⟨rfl, rfl, rfl, by simp [World.setRow], fun q _ hq => setRow_other w11 G7 q _ (fun e => hq (by rw [e]))⟩
                have H12 := Lib.hid (H11.out.grown hg (fun k hk => by cases hk; have := NEG.out; have := GM.out; omega))
                have K12 := Lib.hid (K11.out.grown hg (fun e => by injection e with e; have := GM.out; omega))
                have M12 := Lib.hid (show Bk (w11.setRow G7 mq.cs) G7 38 (fgt pg s m (j + 1)).cs by rw [FQ.out]; exact row_bk M11.out)
                have B12 := Lib.hid (show Below w.heap.size w (w11.setRow G7 mq.cs) from below_row B11.out GM.out.2)
                clear hg
                go_wp2_with (refine store_page rfl _ _ rfl G7 mq q rfl rfl M11.out ?_)
                go_roundw
                case rel => exact ⟨j + 1, by have := J2.out; omega, by have := HLT.out; omega, by go_num, H12.out, K12.out, M12.out, B12.out⟩
                case measure => have := HLT.out; simp [RowKit.intOf]; omega
              · have FQ := Lib.hid (show fgt pg s m (j + 1) = q by
                  unfold fgt
                  rw [← HQ.out, if_neg (fun h => he (by rw [HPJ.out]; exact h.2.2))])
                have heb : (pj.s == s) = false := by simp [he]
                go_wp2_with fail
                go_roundw
                case rel => exact ⟨j + 1, by have := J2.out; omega, by have := HLT.out; omega, by go_num, H9.out, K9.out, by rw [FQ.out]; exact M9.out, B9.out⟩
                case measure => have := HLT.out; simp [RowKit.intOf]; omega
            · have FQ := Lib.hid (show fgt pg s m (j + 1) = q by
                unfold fgt
                rw [← HQ.out, if_neg (fun h => ho h.2.1)])
              have ho : ownB q j = false := by simpa using ho
              rw [ho]
              go_wp2_with fail
              go_roundw
              case rel => exact ⟨j + 1, by have := J2.out; omega, by have := HLT.out; omega, by go_num, H8.out, K8.out, by rw [FQ.out]; exact M8.out, B8.out⟩
              case measure => have := HLT.out; simp [RowKit.intOf]; omega
        · have hjn : j = n := by have := JN.out; omega
          subst hjn
          clear hlt
          have CS1 := Lib.hid (show Calls Tryz.prog 16 #[.pointer (some ⟨g, 0, none⟩), .int .i64 1, .agg q.cs] w7 _ from sv_set H7.out 1 (by have := H2N.out; omega) q MQ.out.ok (by have := HM.out; omega))
          as_aux_lemma =>
            go_wp2_with (refine load_page rfl _ rfl G7 q rfl M7.out ?_)
            refine CS1.out.mono ?_
            rintro e w8 ⟨rfl, hs, hg⟩
            have H8 := Lib.hid hs
            have K8 := Lib.hid (K7.out.grown hg (fun e => by injection e with e; exact H7.out.map_ne K7.out e.symm))
            have G8 := Lib.hid (only_trans (only_below B7.out (some b)) hg)
            clear hs hg CS1 H7 K7 M7 B7
            obtain ⟨jj, hjs, hjj6⟩ : ∃ jj : Nat, s - 1 = (jj : Int) ∧ jj < 6 := ⟨(s - 1).toNat, by have := J.out.1; omega, by have := J.out.1; have := J.out.2.1; omega⟩
            have HJJ := Lib.hid hjj6
            have SJ := Lib.hid (show (s - 1).toNat = jj by rw [hjs, Int.toNat_natCast])
            have hjz : (jj : Int) < 6 := by omega
            have HA := setCells_only w8 G4 (4 + jj * 2) [.int .i64 0, .string ⟨#[]⟩]
            have H9 := Lib.hid (H8.out.grown HA (fun k hk => by cases hk; have := NEG.out; have := GL.out; omega))
            have K9 := Lib.hid (putRow p jj HJJ.out 0 ⟨#[]⟩ K8.out)
            have G9 := Lib.hid (only_new G8.out HA GL.out)
            obtain ⟨dp, hdp⟩ : ∃ dp, dp = putC p jj ⟨0, ⟨#[]⟩⟩ := ⟨_, rfl⟩
            have DO := Lib.hid (show dp.ok by
              rw [hdp]
              refine ⟨PO.out.1, fun i hi => ?_⟩
              show (if i = jj then (⟨0, ⟨#[]⟩⟩ : Ce) else p.c i).ok
              by_cases e : i = jj
              · rw [if_pos e]; exact .inl ⟨rfl, rfl⟩
              · rw [if_neg e]; exact PO.out.2 i hi)
            rw [← hdp] at K9
            have HDP := Lib.hid hdp
            clear hdp HA hjj6
            as_aux_lemma =>
              go_upto_region 22 with (refine store_cell_at rfl _ _ rfl G4 p jj HJJ.out 0 ⟨#[]⟩ rfl rfl K8.out ?_)
              clear H8 K8 G8
              generalize w8.setCells G4 (4 + jj * 2) [.int .i64 0, .string ⟨#[]⟩] = w9 at *
              have CS2 := Lib.hid (show Calls Tryz.prog 16 #[.pointer (some ⟨g, 0, none⟩), .int .i64 0, .agg dp.cs] w9 _ from sv_set H9.out 0 (by have := H2N.out; omega) dp DO.out (by have := HM.out; omega))
              go_wp2_with (refine load_page rfl _ rfl G4 dp rfl K9.out ?_)
              refine CS2.out.mono ?_
              rintro e w10 ⟨rfl, hs, hg⟩
              have Y1 := Lib.hid (YES.out w10 J.out (by rw [SJ.out, ← HQ.out, ← HDP.out]; exact hs) (only_trans G9.out hg))
              clear hs hg CS2 H9 K9 G9
              go_wp2
              go_ret
              exact Y1.out
end Go.Proofs.YtelbioooggnbiaaGreat
namespace Go.Proofs.YtelbioooggnbiaaGreat
open Go.RowKit

theorem fgt_own {m : Pg} {n : Nat} (h : MapOk m n) (pg : Nat → Pg) (s : Int) (k : Nat) (hk : k < 1632) : ∀ i, i ≤ 1632 → ownB (fgt pg s m i) k = (ownB m k && !(decide (2 ≤ k) && decide (k < i) && decide ((pg k).s = s)))
  | 0, _ => by simp [fgt]
  | i + 1, hi => by
    have ih := fgt_own h pg s k hk i (by omega)
    unfold fgt
    by_cases c : 2 ≤ i ∧ ownB (fgt pg s m i) i = true ∧ (pg i).s = s
    · rw [if_pos c, mrk_own (fgt_ok h pg s i).ch _ _ _ (by omega)]
      by_cases e : k = i
      · subst e
        rw [if_pos rfl]
        simp [c.1, c.2.2]
      · rw [if_neg e, ih]
        by_cases hki : k < i
        · simp [hki, show k < i + 1 by omega]
        · simp [hki, show ¬ k < i + 1 by omega]
    · rw [if_neg c, ih]
      by_cases e : k = i
      · subst e
        rw [ih] at c
        by_cases h2 : 2 ≤ k
        · by_cases hs : (pg k).s = s
          · have : ownB m k = false := by
              cases ho : ownB m k with
              | false => rfl
              | true => exact absurd ⟨h2, by simp [ho], hs⟩ c
            simp [this]
          · simp [hs]
        · simp [h2]
      · by_cases hki : k < i
        · simp [hki, show k < i + 1 by omega]
        · simp [hki, show ¬ k < i + 1 by omega]
theorem DirOk.set {p : Pg} {kd rt : Nat → Nat} (h : DirOk p kd rt) (j : Nat) (hj : j < 6) (hs : (p.c j).st ≠ 0) {st : Int} (h1 : st = 1 ∨ st = 2) : DirOk (setSt p j st) kd rt := by
  refine ⟨h.k, setSt_ok h.ok j hs hj h1, fun i hi hne => ?_⟩
  unfold setSt putC at hne ⊢
  dsimp only at hne ⊢
  by_cases e : i = j
  · subst e
    rw [if_pos rfl]
    exact h.d i hi hs
  · rw [if_neg e] at hne ⊢
    exact h.d i hi hne
theorem DirOk.made {p : Pg} {kd rt : Nat → Nat} (h : DirOk p kd rt) (j k r : Nat) (hk : k < 256) (hr : r < 1024) : DirOk (putC p j ⟨1, stoD k r⟩) (fun i => if i = j then k else kd i) (fun i => if i = j then r else rt i) := by
  refine ⟨h.k, putC_ok h.ok j _ (by rw [stoD_size]; omega), fun i hi hne => ?_⟩
  unfold putC at hne ⊢
  dsimp only at hne ⊢
  by_cases e : i = j
  · rw [if_pos e, if_pos e, if_pos e]
    exact ⟨rfl, hk, hr⟩
  · rw [if_neg e] at hne
    rw [if_neg e, if_neg e, if_neg e]
    exact h.d i hi hne
theorem DirOk.gone {p : Pg} {kd rt : Nat → Nat} (h : DirOk p kd rt) (j : Nat) : DirOk (putC p j ⟨0, ⟨#[]⟩⟩) kd rt := by
  refine ⟨h.k, ⟨h.ok.1, fun i hi => ?_⟩, fun i hi hne => ?_⟩
  · show (if i = j then (⟨0, ⟨#[]⟩⟩ : Ce) else p.c i).ok
    by_cases e : i = j
    · rw [if_pos e]; exact .inl ⟨rfl, rfl⟩
    · rw [if_neg e]; exact h.ok.2 i hi
  · unfold putC at hne ⊢
    dsimp only at hne ⊢
    by_cases e : i = j
    · rw [if_pos e] at hne; exact absurd rfl hne
    · rw [if_neg e] at hne ⊢; exact h.d i hi hne
theorem DirOk.none : DirOk dir0 (fun _ => 0) (fun _ => 0) := ⟨rfl, dir0_ok, fun i hi h => absurd rfl h⟩
end Go.Proofs.YtelbioooggnbiaaGreat
namespace Go.Proofs.YtelbioooggnbiaaGreat
open Go.RowKit Go.Maps

def put {α : Type} (f : Nat → α) (j : Nat) (x : α) : Nat → α := fun i => if i = j then x else f i
theorem put_at {α : Type} (f : Nat → α) (j : Nat) (x : α) : put f j x j = x := if_pos rfl
theorem put_ne {α : Type} (f : Nat → α) {i j : Nat} (x : α) (h : i ≠ j) : put f j x i = f i := if_neg h
structure Vol (pg : Nat → Pg) (n : Nat) (st : Nat → Int) (kd rt : Nat → Nat) (ow : Nat → Option Int) : Prop where
  d : DirOk (pg 0) kd rt
  m : MapOk (pg 1) n
  st : ∀ i, i < 6 → ((pg 0).c i).st = st i
  own : ∀ i, i < n → ownB (pg 1) i = (ow i).isSome
  s : ∀ i, 2 ≤ i → i < n → ∀ x, ow i = some x → (pg i).s = x
  z : ow 0 = some 0 ∧ ow 1 = some 0
section
variable {w : World} {B g b gs r N M n : Nat} {und pg : Nat → Pg} {st : Nat → Int} {kd rt : Nat → Nat} {ow : Nat → Option Int}
/-- A volume that has just been laid. -/
def ow0 : Nat → Option Int := fun i => if i < 2 then some 0 else none
theorem vol_new (pg : Nat → Pg) (n : Nat) (h1 : 4 ≤ n) (h2 : n ≤ 1024) : Vol (upd (upd pg 0 dir0) 1 (mapN n)) n (fun _ => 0) (fun _ => 0) (fun _ => 0) ow0 where
  d := DirOk.none
  m := mapN_ok n h1 h2
  st := fun i _ => rfl
  own := fun i hi => by
    show ownB (mapN n) i = _
    rw [mapN_own n h1 h2 i (by omega)]
    unfold ow0
    by_cases h : i < 2
    · simp [h]
    · simp [h]
  s := fun i h2 hi x hx => by
    unfold ow0 at hx
    rw [if_neg (by omega)] at hx
    cases hx
  z := ⟨rfl, rfl⟩
theorem Vol.lo (h : Vol pg n st kd rt ow) : 4 ≤ n ∧ n ≤ 1024 := ⟨h.m.lo, h.m.hi⟩
def VMake (w : World) (B g b gs r N M n : Nat) (und : Nat → Pg) (st : Nat → Int) (kd rt : Nat → Nat) (ow : Nat → Option Int) (kind : Nat) (e : Ending) (w' : World) : Prop :=
  ((∀ i, i < 6 → st i ≠ 0) ∧ e = .returned (.tuple #[.int .i64 0, .int .i64 192]) ∧ Below w.heap.size w w') ∨
  (∃ j, j < 6 ∧ st j = 0 ∧ (∀ i, i < n → (ow i).isSome = true) ∧ e = .returned (.tuple #[.int .i64 0, .int .i64 140]) ∧ Below w.heap.size w w') ∨
  (∃ (j id : Nat) (pg' : Nat → Pg), j < 6 ∧ st j = 0 ∧ (∀ q, q < j → st q ≠ 0) ∧ 2 ≤ id ∧ id < n ∧ ow id = none ∧ (∀ i, i < id → (ow i).isSome = true) ∧
    e = .returned (.tuple #[.int .i64 ((j : Int) + 1), .int .i64 0]) ∧ SV w' B g b gs r N (M + 3) und pg' ∧ Vol pg' n (put st j 1) (put kd j kind) (put rt j id) (put ow id (some ((j : Int) + 1))) ∧ w.grownBy w' (some b))
theorem Vol.make (h : Vol pg n st kd rt ow) (j id : Nat) (hj : j < 6) (h2 : 2 ≤ id) (hid : id < n) (kind : Nat) (hk : kind < 256) :
    Vol (upd (upd (upd pg 1 (mrk (pg 1) id true)) id (newPg kind j)) 0 (putC (pg 0) j ⟨1, stoD kind id⟩)) n (put st j 1) (put kd j kind) (put rt j id) (put ow id (some ((j : Int) + 1))) := by
  have hl := h.lo
  have e0 : (upd (upd (upd pg 1 (mrk (pg 1) id true)) id (newPg kind j)) 0 (putC (pg 0) j ⟨1, stoD kind id⟩)) 0 = putC (pg 0) j ⟨1, stoD kind id⟩ := rfl
  have e1 : (upd (upd (upd pg 1 (mrk (pg 1) id true)) id (newPg kind j)) 0 (putC (pg 0) j ⟨1, stoD kind id⟩)) 1 = mrk (pg 1) id true := by
    unfold upd; rw [if_neg (by omega), if_neg (by omega), if_pos rfl]
  refine ⟨?_, ?_, fun i hi => ?_, fun i hi => ?_, fun i h2 hi x hx => ?_, ?_⟩
  · rw [e0]; exact h.d.made j kind id hk (by omega)
  · rw [e1]; exact h.m.mrk id true
  · rw [e0]
    show (if i = j then (⟨1, stoD kind id⟩ : Ce) else (pg 0).c i).st = _
    unfold put
    by_cases e : i = j
    · rw [if_pos e, if_pos e]
    · rw [if_neg e, if_neg e]; exact h.st i hi
  · rw [e1, mrk_own h.m.ch _ _ _ (by omega)]
    unfold put
    by_cases e : i = id
    · rw [if_pos e, if_pos e]; rfl
    · rw [if_neg e, if_neg e]; exact h.own i hi
  · unfold upd
    rw [if_neg (by omega)]
    unfold put at hx
    by_cases e : i = id
    · rw [if_pos e] at hx
      rw [if_pos e]
      exact Option.some.inj hx
    · rw [if_neg e] at hx
      rw [if_neg e, if_neg (by omega)]
      exact h.s i h2 hi x hx
  · rw [put_ne _ _ (by omega), put_ne _ _ (by omega)]; exact h.z
theorem vmake (hv : Vol pg n st kd rt ow) {kind : Nat} {e : Ending} {w' : World} (hk : kind < 256) (h : MakePost w B g b gs r N M n und pg kind e w') : VMake w B g b gs r N M n und st kd rt ow kind e w' := by
  have hl := hv.lo
  rcases h with ⟨h, h1, h2⟩ | ⟨j, hj, h0, h, h1, h2⟩ | ⟨j, id, hj, h0, hq, hi, h1, ha, he, hs, hg⟩
  · exact .inl ⟨fun i hi => by rw [← hv.st i hi]; exact h i hi, h1, h2⟩
  · exact .inr (.inl ⟨j, hj, by rw [← hv.st j hj]; exact h0, fun i hi => by rw [← hv.own i hi]; exact h i hi, h1, h2⟩)
  · rw [hv.own id hi] at h1
    have hn : ow id = none := by cases ho : ow id with | none => rfl | some x => rw [ho] at h1; cases h1
    have h2 : 2 ≤ id := by
      by_cases e0 : id = 0
      · subst e0; rw [hv.z.1] at hn; cases hn
      · by_cases e1 : id = 1
        · subst e1; rw [hv.z.2] at hn; cases hn
        · omega
    exact .inr (.inr ⟨j, id, _, hj, by rw [← hv.st j hj]; exact h0, fun q hqj => by rw [← hv.st q (by omega)]; exact hq q hqj, h2, hi, hn, fun i hii => by rw [← hv.own i (by omega)]; exact ha i hii, he, hs, hv.make j id hj h2 hi kind hk, hg⟩)
/-- Make, of whatever kind. -/
theorem make_vol (h : SV w B g b gs r N M und pg) (hn : n ≤ N) (hv : Vol pg n st kd rt ow) (hM : M + 2 < maxLen) (k : Int) :
    Calls Tryz.prog 19 #[.pointer (some ⟨g, 0, none⟩), .int .i64 k] w fun e w' =>
      ((k < 1 ∨ 3 < k) ∧ e = .returned (.tuple #[.int .i64 0, .int .i64 1]) ∧ w' = w) ∨ ((1 ≤ k ∧ k ≤ 3) ∧ VMake w B g b gs r N M n und st kd rt ow k.toNat e w') := by
  have hl := hv.lo
  by_cases h1 : k = 1
  · subst h1
    exact (make_1 h (by omega) hn hv.d.k hv.d.ok hv.m hM).mono fun e w' hp => .inr ⟨by omega, vmake hv (by decide) hp⟩
  by_cases h2 : k = 2
  · subst h2
    exact (make_2 h (by omega) hn hv.d.k hv.d.ok hv.m hM).mono fun e w' hp => .inr ⟨by omega, vmake hv (by decide) hp⟩
  by_cases h3 : k = 3
  · subst h3
    exact (make_3 h (by omega) hn hv.d.k hv.d.ok hv.m hM).mono fun e w' hp => .inr ⟨by omega, vmake hv (by decide) hp⟩
  exact (make_bad k w h1 h2 h3).mono fun e w' ⟨a, c⟩ => .inl ⟨by omega, a, c⟩
theorem Vol.there (h : Vol pg n st kd rt ow) (s : Int) : thereP (pg 0) s ↔ (1 ≤ s ∧ s ≤ 6 ∧ st (s - 1).toNat ≠ 0) := by
  unfold thereP
  constructor
  · rintro ⟨a, c, d⟩; exact ⟨a, c, by rw [← h.st _ (by omega)]; exact d⟩
  · rintro ⟨a, c, d⟩; exact ⟨a, c, by rw [h.st _ (by omega)]; exact d⟩
theorem find_vol (h : SV w B g b gs r N M und pg) (hv : Vol pg n st kd rt ow) (s : Int) :
    Calls Tryz.prog 31 #[.pointer (some ⟨g, 0, none⟩), .int .i64 s] w fun e w' =>
      (¬ (1 ≤ s ∧ s ≤ 6 ∧ st (s - 1).toNat ≠ 0) ∧ e = .returned (.tuple #[.int .i64 0, .int .i64 0, .int .i64 0, .int .i64 190]) ∧ Below w.heap.size w w') ∨
      ((1 ≤ s ∧ s ≤ 6 ∧ st (s - 1).toNat ≠ 0) ∧ e = .returned (.tuple #[.int .i64 (kd (s - 1).toNat), .int .i64 (rt (s - 1).toNat), .int .i64 (st (s - 1).toNat), .int .i64 0]) ∧ Below w.heap.size w w') := by
  refine (find_good h kd rt hv.d s).mono ?_
  rintro e w' (⟨h1, h2, h3⟩ | ⟨h1, h2, h3⟩)
  · exact .inl ⟨fun hx => h1 ((hv.there s).2 hx), h2, h3⟩
  · have hx := (hv.there s).1 h1
    exact .inr ⟨hx, by rw [h2, hv.st _ (by omega)], h3⟩
theorem Vol.state (h : Vol pg n st kd rt ow) (j : Nat) (hj : j < 6) (hs : st j ≠ 0) (x : Int) (hx : x = 1 ∨ x = 2) : Vol (upd pg 0 (setSt (pg 0) j x)) n (put st j x) kd rt ow := by
  have hl := h.lo
  have e1 : (upd pg 0 (setSt (pg 0) j x)) 1 = pg 1 := rfl
  refine ⟨h.d.set j hj (by rw [h.st j hj]; exact hs) hx, by rw [e1]; exact h.m, fun i hi => ?_, fun i hi => by rw [e1]; exact h.own i hi, fun i h2 hi y hy => ?_, h.z⟩
  · show (if i = j then (⟨x, ((pg 0).c j).d⟩ : Ce) else (pg 0).c i).st = _
    unfold put
    by_cases e : i = j
    · rw [if_pos e, if_pos e]
    · rw [if_neg e, if_neg e]; exact h.st i hi
  · unfold upd; rw [if_neg (by omega)]; exact h.s i h2 hi y hy
theorem state_vol (h : SV w B g b gs r N M und pg) (hn : n ≤ N) (hv : Vol pg n st kd rt ow) (hM : M < maxLen) (s x : Int) :
    Calls Tryz.prog 29 #[.pointer (some ⟨g, 0, none⟩), .int .i64 s, .int .i64 x] w fun e w' =>
      (¬ ((1 ≤ s ∧ s ≤ 6 ∧ st (s - 1).toNat ≠ 0) ∧ (x = 1 ∨ x = 2)) ∧ e = .returned (.int .i64 1) ∧ Below w.heap.size w w') ∨
      (((1 ≤ s ∧ s ≤ 6 ∧ st (s - 1).toNat ≠ 0) ∧ (x = 1 ∨ x = 2)) ∧ e = .returned (.int .i64 0) ∧ ∃ pg', SV w' B g b gs r N (M + 1) und pg' ∧ Vol pg' n (put st (s - 1).toNat x) kd rt ow ∧ w.grownBy w' (some b)) := by
  have hl := hv.lo
  refine (state_good h hv.d.k hv.d.ok (by omega) hM s x).mono ?_
  rintro e w' (⟨h1, h2, h3⟩ | ⟨h1, h2, h3, h4⟩)
  · exact .inl ⟨fun hx => h1 ⟨(hv.there s).2 hx.1, hx.2⟩, h2, h3⟩
  · have hx := (hv.there s).1 h1.1
    exact .inr ⟨⟨hx, h1.2⟩, h2, _, h3, hv.state _ (by omega) hx.2.2 x h1.2, h4⟩
def owF (ow : Nat → Option Int) (s : Int) : Nat → Option Int := fun i => if 2 ≤ i ∧ ow i = some s then none else ow i
theorem Vol.forget (h : Vol pg n st kd rt ow) (s : Int) (j : Nat) (hj : j < 6) : Vol (upd (upd pg 1 (fgt pg s (pg 1) n)) 0 (putC (pg 0) j ⟨0, ⟨#[]⟩⟩)) n (put st j 0) kd rt (owF ow s) := by
  have hl := h.lo
  have e1 : (upd (upd pg 1 (fgt pg s (pg 1) n)) 0 (putC (pg 0) j ⟨0, ⟨#[]⟩⟩)) 1 = fgt pg s (pg 1) n := rfl
  refine ⟨h.d.gone j, by rw [e1]; exact fgt_ok h.m pg s n, fun i hi => ?_, fun i hi => ?_, fun i h2 hi y hy => ?_, ?_⟩
  · show (if i = j then (⟨0, ⟨#[]⟩⟩ : Ce) else (pg 0).c i).st = _
    unfold put
    by_cases e : i = j
    · rw [if_pos e, if_pos e]
    · rw [if_neg e, if_neg e]; exact h.st i hi
  · rw [e1, fgt_own h.m pg s i (by omega) n (by omega), h.own i hi]
    unfold owF
    by_cases h2 : 2 ≤ i
    · cases ho : ow i with
      | none => simp [ho]
      | some x =>
        have hx := h.s i h2 hi x ho
        simp [h2, hi, hx]
        by_cases e : x = s
        · simp [e]
        · simp [e]
    · simp [h2]
  · unfold upd
    rw [if_neg (by omega), if_neg (by omega)]
    unfold owF at hy
    split at hy
    · cases hy
    · exact h.s i h2 hi y hy
  · unfold owF
    rw [if_neg (by omega), if_neg (by omega)]; exact h.z
theorem forget_vol (h : SV w B g b gs r N M und pg) (hn : n ≤ N) (hv : Vol pg n st kd rt ow) (hM : M + 1 < maxLen) (s : Int) :
    Calls Tryz.prog 28 #[.pointer (some ⟨g, 0, none⟩), .int .i64 s] w fun e w' =>
      (¬ (1 ≤ s ∧ s ≤ 6 ∧ st (s - 1).toNat ≠ 0) ∧ e = .returned (.int .i64 1) ∧ Below w.heap.size w w') ∨
      ((1 ≤ s ∧ s ≤ 6 ∧ st (s - 1).toNat ≠ 0) ∧ e = .returned (.int .i64 0) ∧ ∃ pg', SV w' B g b gs r N (M + 2) und pg' ∧ Vol pg' n (put st (s - 1).toNat 0) kd rt (owF ow s) ∧ w.grownBy w' (some b)) := by
  have hl := hv.lo
  refine (forget_good h (by omega) hn hv.d.k hv.d.ok hv.m hM s).mono ?_
  rintro e w' (⟨h1, h2, h3⟩ | ⟨h1, h2, h3, h4⟩)
  · exact .inl ⟨fun hx => h1 ((hv.there s).2 hx), h2, h3⟩
  · have hx := (hv.there s).1 h1
    exact .inr ⟨hx, h2, _, h3, hv.forget s _ (by omega), h4⟩
theorem Vol.take (h : Vol pg n st kd rt ow) (id : Nat) (h2 : 2 ≤ id) (hid : id < n) : Vol (upd pg 1 (mrk (pg 1) id true)) n st kd rt (put ow id (some (pg id).s)) := by
  have hl := h.lo
  have e1 : (upd pg 1 (mrk (pg 1) id true)) 1 = mrk (pg 1) id true := rfl
  refine ⟨h.d, by rw [e1]; exact h.m.mrk id true, h.st, fun i hi => ?_, fun i h2 hi y hy => ?_, ?_⟩
  · rw [e1, mrk_own h.m.ch _ _ _ (by omega)]
    unfold put
    by_cases e : i = id
    · rw [if_pos e, if_pos e]; rfl
    · rw [if_neg e, if_neg e]; exact h.own i hi
  · unfold upd
    rw [if_neg (by omega)]
    unfold put at hy
    by_cases e : i = id
    · rw [if_pos e] at hy
      injection hy with hy
      rw [e]; exact hy
    · rw [if_neg e] at hy
      exact h.s i h2 hi y hy
  · rw [put_ne _ _ (by omega), put_ne _ _ (by omega)]; exact h.z
theorem take_vol (h : SV w B g b gs r N M und pg) (hn : n ≤ N) (hv : Vol pg n st kd rt ow) (hM : M < maxLen) :
    Calls Tryz.prog 14 #[.pointer (some ⟨g, 0, none⟩)] w fun e w' =>
      ((∀ i, i < n → (ow i).isSome = true) ∧ e = .returned (.tuple #[.int .i64 0, .int .i64 140]) ∧ Below w.heap.size w w') ∨
      (∃ (id : Nat) (x : Int) (pg' : Nat → Pg), 2 ≤ id ∧ id < n ∧ ow id = none ∧ (∀ i, i < id → (ow i).isSome = true) ∧ e = .returned (.tuple #[.int .i64 id, .int .i64 0]) ∧ SV w' B g b gs r N (M + 1) und pg' ∧ Vol pg' n st kd rt (put ow id (some x)) ∧ w.grownBy w' (some b)) := by
  have hl := hv.lo
  refine (take_good h (by omega) hv.m hM).mono ?_
  rintro e w' (⟨h1, h2, h3⟩ | ⟨id, h1, h2, h3, h4, h5, h6⟩)
  · exact .inl ⟨fun i hi => by rw [← hv.own i hi]; exact h1 i hi, h2, h3⟩
  · rw [hv.own id h1] at h2
    have hn : ow id = none := by cases ho : ow id with | none => rfl | some x => rw [ho] at h2; cases h2
    have h22 : 2 ≤ id := by
      by_cases e0 : id = 0
      · subst e0; rw [hv.z.1] at hn; cases hn
      · by_cases e1 : id = 1
        · subst e1; rw [hv.z.2] at hn; cases hn
        · omega
    exact .inr ⟨id, _, _, h22, h1, hn, fun i hi => by rw [← hv.own i (by omega)]; exact h3 i hi, h4, h5, hv.take id h22 h1, h6⟩
theorem Vol.give (h : Vol pg n st kd rt ow) (id : Nat) (h2 : 2 ≤ id) (hid : id < n) : Vol (upd pg 1 (mrk (pg 1) id false)) n st kd rt (put ow id none) := by
  have hl := h.lo
  have e1 : (upd pg 1 (mrk (pg 1) id false)) 1 = mrk (pg 1) id false := rfl
  refine ⟨h.d, by rw [e1]; exact h.m.mrk id false, h.st, fun i hi => ?_, fun i h2 hi y hy => ?_, ?_⟩
  · rw [e1, mrk_own h.m.ch _ _ _ (by omega)]
    unfold put
    by_cases e : i = id
    · rw [if_pos e, if_pos e]; rfl
    · rw [if_neg e, if_neg e]; exact h.own i hi
  · unfold upd
    rw [if_neg (by omega)]
    unfold put at hy
    by_cases e : i = id
    · rw [if_pos e] at hy; cases hy
    · rw [if_neg e] at hy
      exact h.s i h2 hi y hy
  · rw [put_ne _ _ (by omega), put_ne _ _ (by omega)]; exact h.z
theorem give_vol (h : SV w B g b gs r N M und pg) (hn : n ≤ N) (hv : Vol pg n st kd rt ow) (hM : M < maxLen) (id : Int) :
    Calls Tryz.prog 15 #[.pointer (some ⟨g, 0, none⟩), .int .i64 id] w fun e w' =>
      (¬ (2 ≤ id ∧ id < n ∧ (ow id.toNat).isSome = true) ∧ e = .returned (.int .i64 1) ∧ Below w.heap.size w w') ∨
      ((2 ≤ id ∧ id < n ∧ (ow id.toNat).isSome = true) ∧ e = .returned (.int .i64 0) ∧ ∃ pg', SV w' B g b gs r N (M + 1) und pg' ∧ Vol pg' n st kd rt (put ow id.toNat none) ∧ w.grownBy w' (some b)) := by
  have hl := hv.lo
  refine (give_good h (by omega) hv.m hM id).mono ?_
  rintro e w' (⟨h1, h2, h3⟩ | ⟨⟨h1, h2, h3⟩, h4, h5, h6⟩)
  · exact .inl ⟨fun ⟨a, c, d⟩ => h1 ⟨a, c, by rw [hv.own _ (by omega)]; exact d⟩, h2, h3⟩
  · rw [hv.own _ (by omega)] at h3
    exact .inr ⟨⟨h1, h2, h3⟩, h4, _, h5, hv.give _ (by omega) (by omega), h6⟩
def owL (ow : Nat → Option Int) (n : Nat) : List Int := ((List.range n).filter fun i => (ow i).isSome).map fun i : Nat => (i : Int)
theorem used_vol (h : SV w B g b gs r N M und pg) (hn : n ≤ N) (hv : Vol pg n st kd rt ow) :
    Calls Tryz.prog 12 #[.pointer (some ⟨g, 0, none⟩)] w fun e w' => ∃ v, e = .returned (.tuple #[v, .int .i64 n, .int .i64 0]) ∧ IntsOwn w' w.heap.size v (owL ow n) ∧ Below w.heap.size w w' := by
  have hl := hv.lo
  refine (used_good h (by omega) hv.m).mono ?_
  rintro e w' ⟨v, h1, h2, h3⟩
  refine ⟨v, h1, ?_, h3⟩
  have : owL ow n = usedL (pg 1) n := by
    unfold owL usedL
    congr 1
    refine List.filter_congr fun i hi => ?_
    rw [hv.own i (List.mem_range.1 hi)]
  rw [this]
  exact h2
/-- A page of a store's own is laid at a page that is taken. -/
theorem Vol.lay (h : Vol pg n st kd rt ow) (id : Nat) (h2 : 2 ≤ id) (p : Pg) : Vol (upd pg id p) n st kd rt (if (ow id).isSome then put ow id (some p.s) else ow) := by
  have hl := h.lo
  have e1 : (upd pg id p) 1 = pg 1 := by unfold upd; rw [if_neg (by omega)]
  have e0 : (upd pg id p) 0 = pg 0 := by unfold upd; rw [if_neg (by omega)]
  refine ⟨by rw [e0]; exact h.d, by rw [e1]; exact h.m, fun i hi => by rw [e0]; exact h.st i hi, fun i hi => ?_, fun i h2 hi y hy => ?_, ?_⟩
  · rw [e1, h.own i hi]
    split
    · unfold put
      by_cases e : i = id
      · subst e; rename_i hh; rw [if_pos rfl, hh]; rfl
      · rw [if_neg e]
    · rfl
  · unfold upd
    by_cases e : i = id
    · subst e
      rw [if_pos rfl]
      split at hy
      · unfold put at hy
        rw [if_pos rfl] at hy
        injection hy
      · rename_i hh
        rw [hy] at hh
        exact absurd rfl hh
    · rw [if_neg e]
      refine h.s i h2 hi y ?_
      split at hy
      · unfold put at hy
        rw [if_neg e] at hy
        exact hy
      · exact hy
  · split
    · rw [put_ne _ _ (by omega), put_ne _ _ (by omega)]; exact h.z
    · exact h.z
end
end Go.Proofs.YtelbioooggnbiaaGreat
