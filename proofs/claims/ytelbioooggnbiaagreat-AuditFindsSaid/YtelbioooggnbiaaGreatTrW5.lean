/- Layer 16: Get, Set, Cut. Layer 16: Cut. Layer 16: Restore. -/
import Derived.Test.YtelbioooggnbiaaGreatTrW2
set_option linter.unusedVariables false
set_option linter.unusedSimpArgs false
namespace Go.Proofs.YtelbioooggnbiaaGreat
open Go.RowKit Go.Maps

/-- A key that is live is another one from now on. -/
def ChgP (w : World) (B g b gs r N M n : Nat) (und pg : Nat → Pg) (st : Nat → Int) (kd rt : Nat → Nat) (ow : Nat → Option Int) (sn H : Nat) (lf ids : List Nat) (R : List (ByteArray × Ce)) (ff : Prop) (k : ByteArray) (new : Ce → Ce) (e : Ending) (w' : World) : Prop :=
  ((∀ c, (k, c) ∈ R → c.st ≠ 1) ∧ e = .returned (.tuple #[.agg ud0.cs, .int .i64 150]) ∧ Below w.heap.size w w') ∨
  (∃ (c : Ce) (R' : List (ByteArray × Ce)) (pg' : Nat → Pg), (k, c) ∈ R ∧ c.st = 1 ∧ e = .returned (.tuple #[.agg (udK sn k c).cs, .int .i64 0]) ∧ SV w' B g b gs r N (M + 1) und pg' ∧ Tv pg' n st kd rt ow sn H lf ids R' ff ∧ RSet R R' k (new c) ∧ w.grownBy w' (some b) ∧ ∀ i, i ∉ ids → pg' i = pg i)
theorem live_row {pg : Nat → Pg} {n : Nat} {ow : Nat → Option Int} {sn : Int} {rt H : Nat} {lf ids : List Nat} {R : List (ByteArray × Ce)} {ff : Prop} (h : Ix pg n ow sn rt H lf ids R ff) (k : ByteArray) :
    (liveP (pg (dn pg k rt H)) k ↔ ∃ c, (k, c) ∈ R ∧ c.st = 1) ∧ (¬ liveP (pg (dn pg k rt H)) k → ∀ c, (k, c) ∈ R → c.st ≠ 1) := by
  have ht := h.there k
  unfold liveP
  constructor
  · constructor
    · rintro ⟨h1, h2⟩; exact ⟨_, (ht _).2 ⟨h1, rfl⟩, h2⟩
    · rintro ⟨c, h1, h2⟩
      obtain ⟨h3, h4⟩ := (ht c).1 h1
      exact ⟨h3, by rw [← h4]; exact h2⟩
  · intro hn c hc h1
    obtain ⟨h3, h4⟩ := (ht c).1 hc
    exact hn ⟨h3, by rw [← h4]; exact h1⟩
def GetPost (w : World) (R : List (ByteArray × Ce)) (k : ByteArray) (e : Ending) (w' : World) : Prop :=
  ((¬ keyOk k ∧ e = .returned (.tuple #[.string ⟨#[]⟩, .int .i64 1])) ∨ (keyOk k ∧ ∃ c, (k, c) ∈ R ∧ c.st = 1 ∧ e = .returned (.tuple #[.string c.rst, .int .i64 0])) ∨
    (keyOk k ∧ (∀ c, (k, c) ∈ R → c.st ≠ 1) ∧ e = .returned (.tuple #[.string ⟨#[]⟩, .int .i64 150]))) ∧ Below w.heap.size w w'
def TSetPost (w : World) (B g b gs r N M n : Nat) (und pg : Nat → Pg) (st : Nat → Int) (kd rt : Nat → Nat) (ow : Nat → Option Int) (sn H : Nat) (lf ids : List Nat) (R : List (ByteArray × Ce)) (ff : Prop) (k val : ByteArray) (e : Ending) (w' : World) : Prop :=
  (¬ keyOk k ∧ e = .returned (.tuple #[.agg ud0.cs, .int .i64 1]) ∧ Below w.heap.size w w') ∨ (keyOk k ∧ 20 < val.size ∧ e = .returned (.tuple #[.agg ud0.cs, .int .i64 2]) ∧ Below w.heap.size w w') ∨
  (keyOk k ∧ val.size ≤ 20 ∧ ChgP w B g b gs r N M n und pg st kd rt ow sn H lf ids R ff k (fun _ => ⟨1, dat k val⟩) e w')
/-- What a change of a leaf's cell is, as the index sees it. -/
theorem chg_of {w w' : World} {B g b gs r N M n : Nat} {und pg : Nat → Pg} {st : Nat → Int} {kd rt : Nat → Nat} {ow : Nat → Option Int} {sn H : Nat} {lf ids : List Nat} {R : List (ByteArray × Ce)} {ff : Prop} (ht : Tv pg n st kd rt ow sn H lf ids R ff) (k : ByteArray) (new : Ce → Ce)
    (hl : liveP (pg (dn pg k (rt (sn - 1)) H)) k) (hn : ∀ c, c.key = k → leafCellOk c → leafCellOk (new c) ∧ (new c).key = k)
    (hs : SV w' B g b gs r N (M + 1) und (upd pg (dn pg k (rt (sn - 1)) H) (putC (pg (dn pg k (rt (sn - 1)) H)) (fAt (pg (dn pg k (rt (sn - 1)) H)) k) (new ((pg (dn pg k (rt (sn - 1)) H)).c (fAt (pg (dn pg k (rt (sn - 1)) H)) k)))))) (hg : w.grownBy w' (some b)) :
    ChgP w B g b gs r N M n und pg st kd rt ow sn H lf ids R ff k new (.returned (.tuple #[.agg (udK sn k ((pg (dn pg k (rt (sn - 1)) H)).c (fAt (pg (dn pg k (rt (sn - 1)) H)) k))).cs, .int .i64 0])) w' := by
  have hx := (ht.ix.there k _).2 ⟨hl.1, rfl⟩
  obtain ⟨e1, e2⟩ := ht.ix.row hx
  obtain ⟨n1, n2⟩ := hn _ e1 e2
  obtain ⟨R', h1, h2⟩ := ht.set k hl.1 n1 n2
  refine .inr ⟨_, R', _, hx, hl.2, rfl, hs, h1, h2, hg, fun i hi => upd_ne _ _ fun e => hi ?_⟩
  rw [e]; exact (ht.ix.at_ k H (Nat.le_refl _)).2.1
end Go.Proofs.YtelbioooggnbiaaGreat
namespace Go.Proofs.YtelbioooggnbiaaGreat
open Go.RowKit Go.Maps

section
variable {ops : Array Oper} {S : World → Prop} {o : Oper} {a : Act}
theorem held_st (y : Operand) (ho : o.op = .load 122 y) (hw : Region.wanted o (yielded ops a.tmps) = true) (g : Nat) (m : Im)
    (hx : a.eval y = .pointer (some ⟨g, 0, none⟩)) (hS : ∀ w, S w → Bk w g 122 m.cs) : YieldsIf Tryz.prog ops S o (.agg m.cs) a :=
  held_row 122 _ y ho hw g m.cs Tryz.underlying122 hS hx fun w h => run_loadVar_row (P := Tryz.prog) w g 122 122 m.cs (0, 0) _ h Tryz.underlying122 rfl (by rw [← Array.length_toList, im_len]; kernel_rfl)
theorem held_st_cell (y : Operand) (ho : o.op = .load 35 y) (hw : Region.wanted o (yielded ops a.tmps) = true) (g : Nat) (m : Im) (j : Nat) (hj : j < 6)
    (hx : a.eval y = .pointer (some ⟨g, 5 + j * 2, none⟩)) (hS : ∀ w, S w → Bk w g 122 m.cs) : YieldsIf Tryz.prog ops S o (.agg #[.int .i64 (m.p.c j).st, .string (m.p.c j).d]) a := by
  have := yieldsIf_load_mid (P := Tryz.prog) (S := S) hw 35 y ho g (5 + j * 2) hx [.int .i64 (m.p.c j).st, .string (m.p.c j).d] _ (fun w h => st_cell (hS w h) hj) Tryz.underlying35 rfl (by show _ = some 2; kernel_rfl)
  simpa using this
end
def TCutPost (w : World) (B g b gs r N M n : Nat) (und pg : Nat → Pg) (st : Nat → Int) (kd rt : Nat → Nat) (ow : Nat → Option Int) (sn H : Nat) (lf ids : List Nat) (R : List (ByteArray × Ce)) (ff : Prop) (k : ByteArray) (e : Ending) (w' : World) : Prop :=
  (¬ keyOk k ∧ e = .returned (.tuple #[.agg ud0.cs, .int .i64 1]) ∧ Below w.heap.size w w') ∨ (keyOk k ∧ ChgP w B g b gs r N M n und pg st kd rt ow sn H lf ids R ff k ghostC e w')
set_option maxRecDepth 100000 in
set_option maxHeartbeats 8000000 in
theorem tcut_any {w : World} {B g b gs r N M n : Nat} {und pg : Nat → Pg} {st : Nat → Int} {kd rt : Nat → Nat} {ow : Nat → Option Int} {sn H : Nat} {lf ids : List Nat} {R : List (ByteArray × Ce)} {ff : Prop} (h : SV w B g b gs r N M und pg) (hn : n ≤ N) (ht : Tv pg n st kd rt ow sn H lf ids R ff) (hM : M < maxLen) (k : ByteArray) :
    Calls Tryz.prog 27 #[.pointer (some ⟨g, 0, none⟩), .int .i64 sn, .string k] w (TCutPost w B g b gs r N M n und pg st kd rt ow sn H lf ids R ff k) := by
  have HV := Lib.hid h; have HN := Lib.hid hn; have HT := Lib.hid ht; have HM := Lib.hid hM
  have NEG := Lib.hid h.gs_ne
  have CF := Lib.hid (fun (w' : World) (hb : Below w.heap.size w w') => live_any (h.kept hb) hn ht k)
  have LR := Lib.hid (live_row ht.ix k)
  have PF := Lib.hid (ht.ix.pgs _ (ht.ix.at_ k H (Nat.le_refl _)).2.1)
  have NB := Lib.hid (fun (w' : World) (hx : ¬ keyOk k) (hb : Below w.heap.size w w') => show TCutPost w B g b gs r N M n und pg st kd rt ow sn H lf ids R ff k (.returned (.tuple #[.agg ud0.cs, .int .i64 1])) w' from .inl ⟨hx, rfl, hb⟩)
  have NN1 := Lib.hid (fun (w' : World) (hx : keyOk k) (h3 : ¬ liveP (pg (dn pg k (rt (sn - 1)) H)) k) (hb : Below w.heap.size w w') => show TCutPost w B g b gs r N M n und pg st kd rt ow sn H lf ids R ff k (.returned (.tuple #[.agg ud0.cs, .int .i64 150])) w' from .inr ⟨hx, .inl ⟨LR.out.2 h3, rfl, hb⟩⟩)
  have YES := Lib.hid (fun (w' : World) (hx : keyOk k) (h3 : liveP (pg (dn pg k (rt (sn - 1)) H)) k) (hs : SV w' B g b gs r N (M + 1) und (upd pg (dn pg k (rt (sn - 1)) H) (putC (pg (dn pg k (rt (sn - 1)) H)) (fAt (pg (dn pg k (rt (sn - 1)) H)) k) (ghostC ((pg (dn pg k (rt (sn - 1)) H)).c (fAt (pg (dn pg k (rt (sn - 1)) H)) k)))))) (hg : w.grownBy w' (some b)) =>
    show TCutPost w B g b gs r N M n und pg st kd rt ow sn H lf ids R ff k (.returned (.tuple #[.agg (udK sn k ((pg (dn pg k (rt (sn - 1)) H)).c (fAt (pg (dn pg k (rt (sn - 1)) H)) k))).cs, .int .i64 0])) w' from .inr ⟨hx, chg_of HT.out k ghostC h3 (fun c e1 e2 => ⟨(ghost_ok e2).1, (ghost_ok e2).2.1.trans e1⟩) hs hg⟩)
  generalize hl : dn pg k (rt (sn - 1)) H = l at *
  obtain ⟨p, hpp⟩ : ∃ p, p = pg l := ⟨_, rfl⟩
  rw [← hpp] at CF LR YES NN1
  have CH := Lib.hid (fun (w' : World) (hs : SV w' B g b gs r N M und pg) (i : Nat) (hi : i < 6) (c : Ce) (hc : c.ok) => tchange_any hs sn k l (by have := PF.out.lt; have := HN.out; omega) i hi p (by rw [hpp]; exact PF.out.ok) c hc HM.out)
  have POK := Lib.hid (show p.ok from by rw [hpp]; exact PF.out.ok)
  have KR := Lib.hid (Bk.new w 72 ud0.cs)
  have V1 := Lib.hid (h.alloc (.cells ud0.cs 72))
  have B1 := Lib.hid ((Below.refl w.heap.size w).alloc (Nat.le_refl _) (.cells ud0.cs 72))
  have CI := Lib.hid (fun w' => iskey_any k w')
  clear h hn ht hM hl hpp HV
  go_enter Tryz.func27, Tryz.ntmps27
  go_upto_region 1 with fail
  change Code.wp _ _ _ _ (w.alloc (.cells ud0.cs 72))
  obtain ⟨U, hU⟩ : ∃ U, U = w.heap.size := ⟨_, rfl⟩
  have UE := Lib.hid (show w.heap.size ≤ U ∧ U = w.heap.size from ⟨by omega, hU⟩)
  rw [← hU] at KR ⊢
  obtain ⟨w1, hw1⟩ : ∃ w1, w1 = w.alloc (.cells ud0.cs 72) := ⟨_, rfl⟩
  rw [← hw1] at KR V1 B1 ⊢
  clear hw1 hU
  go_wp2_with fail
  refine (CI.out _).mono ?_
  rintro e w2 ⟨rfl, rfl⟩
  by_cases hk : keyOk k
  · rw [decide_eq_true hk]
    have HK := Lib.hid hk
    clear hk NB CI
    as_aux_lemma =>
      go_wp2_with fail
      refine (CF.out _ B1.out).mono ?_
      rintro e w3 ⟨⟨hlv, rfl⟩ | ⟨hlv, rfl⟩, hb⟩
      · have F6 := Lib.hid (fThere_lt hlv.1).2
        have HL := Lib.hid hlv
        generalize fAt p k = fi at *
        obtain ⟨m, hm⟩ : ∃ m : Im, m = ⟨(l : Nat), p⟩ := ⟨_, rfl⟩
        have MP := Lib.hid (show m.p = p by rw [hm])
        have CH2 := Lib.hid (fun (w' : World) (hs : SV w' B g b gs r N M und pg) => CH.out w' hs fi F6.out (ghostC (p.c fi)) (ce_ghost (POK.out.2 fi F6.out)))
        have CG := Lib.hid (fun w' => ghost_any (p.c fi) w')
        rw [← hm] at CH2 ⊢
        have KC := Lib.hid (Bk.new w3 122 m.cs)
        have KR3 := Lib.hid ((KR.out.kept hb).alloc (.cells m.cs 122))
        have V3 := Lib.hid ((V1.out.kept hb).alloc (.cells m.cs 122))
        have B3 := Lib.hid ((below_then B1.out hb B1.out.size).alloc (Nat.le_trans B1.out.size hb.size) (.cells m.cs 122))
        obtain ⟨C, hC⟩ : ∃ C, C = w3.heap.size := ⟨_, rfl⟩
        have CU := Lib.hid (show C ≠ U ∧ C ≠ b from by have h1 := (KR.out.kept hb).lt; have h2 := (V1.out.kept hb).gs_ne; omega)
        rw [← hC] at KC
        have f6 : (fi : Int) < 6 := by have := F6.out; omega
        clear hm hb hlv KR V1 B1 NN1 CF CH
        dsimp only
        as_aux_lemma =>
          go_upto_region 6 with (refine store_st_new rfl _ _ rfl m rfl rfl ?_; rw [← hC]; clear hC; generalize w3.alloc (.cells m.cs 122) = w4 at *)
          refine wp_region_held (S := fun w' => Bk w' C 122 m.cs) (by kernel_rfl) ?_
          refine held_take (fuel := 15) (i := 0) 27 rfl rfl (by kernel_rfl) (by kernel_rfl) (by kernel_rfl) (fun _ _ _ h => h) (held_move _ rfl (by kernel_rfl)) KC.out.drew ?_
          refine held_take (fuel := 14) (i := 1) 28 rfl rfl (by kernel_rfl) (by kernel_rfl) (by kernel_rfl) (fun _ _ _ h => h) (held_move _ rfl (by kernel_rfl)) KC.out.drew ?_
          refine held_take (fuel := 13) (i := 2) 29 rfl rfl (by kernel_rfl) (by kernel_rfl) (by kernel_rfl) (fun _ _ _ h => h) (held_move _ rfl (by kernel_rfl)) KC.out.drew ?_
          refine held_take (fuel := 12) (i := 3) 30 rfl rfl (by kernel_rfl) (by kernel_rfl) (by kernel_rfl) (fun _ _ _ h => h) (held_st _ rfl (by kernel_rfl) C m rfl (fun w h => h)) KC.out.drew ?_
          refine held_take (fuel := 11) (i := 4) 31 rfl rfl (by kernel_rfl) (by kernel_rfl) (by kernel_rfl) (fun _ _ _ h => h) (held_move _ rfl (by kernel_rfl)) KC.out.drew ?_
          refine held_take (fuel := 10) (i := 5) 32 rfl rfl (by kernel_rfl) (by kernel_rfl) (by kernel_rfl) (fun _ _ _ h => h) (held_move _ rfl (by kernel_rfl)) KC.out.drew ?_
          simp only [Act.put, Act.eval, List.setIfInBounds_toArray, List.set_cons_succ, List.set_cons_zero]
          refine held_take (fuel := 9) (i := 6) (v := .pointer (some ⟨C, 1, none⟩)) 33 rfl rfl (by kernel_rfl) (by kernel_rfl) (by kernel_rfl) (fun _ _ _ h => h) (by refine .inl ⟨by kernel_rfl, fun wx hx => ?_⟩; unfold execOp; go_simp) KC.out.drew ?_
          refine held_take (fuel := 8) (i := 7) (v := .pointer (some ⟨C, 5, none⟩)) 34 rfl rfl (by kernel_rfl) (by kernel_rfl) (by kernel_rfl) (fun _ _ _ h => h) (by refine .inl ⟨by kernel_rfl, fun wx hx => ?_⟩; unfold execOp; go_simp) KC.out.drew ?_
          refine held_take (fuel := 7) (i := 8) (v := .pointer (some ⟨C, 5 + fi * 2, none⟩)) 35 rfl rfl (by kernel_rfl) (by kernel_rfl) (by kernel_rfl) (fun _ _ _ h => h) (by refine .inl ⟨by kernel_rfl, fun wx hx => ?_⟩; unfold execOp; go_simp) KC.out.drew ?_
          refine held_take (fuel := 6) (i := 9) 36 rfl rfl (by kernel_rfl) (by kernel_rfl) (by kernel_rfl) (fun _ _ _ h => h) (held_st_cell _ rfl (by kernel_rfl) C m fi F6.out rfl (fun w h => h)) KC.out.drew ?_
          simp only [Act.put, Act.eval, List.setIfInBounds_toArray, List.set_cons_succ, List.set_cons_zero]
          rw [MP.out]
          refine held_ready (fuel := 5) 10 (by kernel_rfl) ?_
          refine held_call rfl (by kernel_rfl) 37 rfl 60 #[.agg #[.int .i64 (p.c fi).st, .string (p.c fi).d]] (by kernel_rfl) ?_
          refine (CG.out _).mono ?_
          rintro e w5 ⟨rfl, hb⟩
          have KC5 := Lib.hid (KC.out.drew.kept hb)
          have KR5 := Lib.hid (KR3.out.drew.kept hb)
          have V5 := Lib.hid (V3.out.drew.kept hb)
          have B5 := Lib.hid (below_then B3.out.drew hb (by have := B3.out.size; exact this))
          clear hb KC KR3 V3 B3 CG
          refine ⟨_, rfl, KC5.out, ?_⟩
          simp only [Act.put, Act.eval, List.setIfInBounds_toArray, List.set_cons_succ, List.set_cons_zero]
          unfold Ce.v
          refine held_ready (fuel := 4) 11 (by kernel_rfl) ?_
          refine held_call rfl (by kernel_rfl) 38 rfl 55 #[.pointer (some ⟨g, 0, none⟩), .int .i64 sn, .string k, .agg m.cs, .int .i64 fi, .agg #[.int .i64 (ghostC (p.c fi)).st, .string (ghostC (p.c fi)).d]] (by kernel_rfl) ?_
          refine (CH2.out w5 V5.out).mono ?_
          rintro e w7 ⟨rfl, hsv, hg⟩
          obtain ⟨u, hu⟩ : ∃ u, u = udK sn k (p.c fi) := ⟨_, rfl⟩
          have HU := Lib.hid hu
          rw [← hu]
          have KC7 := Lib.hid (KC5.out.grown hg (fun e => by have := CU.out; injection e with e; omega))
          have KR7 := Lib.hid (KR5.out.grown hg (fun e => by have := UE.out; have := NEG.out; injection e with e; omega))
          have V8 := Lib.hid (show SV (w7.setRow U u.cs) B g b gs r N (M + 1) und (upd pg l (putC p fi (ghostC (p.c fi)))) from hsv.grown (row := some U) (only_row w7 U _) (fun k hk => by cases hk; have := UE.out; have := NEG.out; omega))
          have G8 := Lib.hid (only_setRow (only_trans (only_below B5.out (some b)) hg) (show w.heap.size ≤ U from UE.out.1) u.cs)
          have KU8 := Lib.hid (ud_bk (p := u) KR7.out)
          clear hu hsv hg KC5 KR5 V5 B5 CH2
          refine ⟨_, rfl, KC7.out, ?_⟩
          simp only [Act.put, Act.eval, List.setIfInBounds_toArray, List.set_cons_succ, List.set_cons_zero]
          refine held_take (fuel := 3) (i := 12) (v := .agg u.cs) 39 rfl rfl (by kernel_rfl) (by kernel_rfl) (by kernel_rfl) (fun _ _ _ h => h) (by refine .inl ⟨by kernel_rfl, fun wx hx => ?_⟩; unfold execOp; go_simp) KC7.out ?_
          refine held_take (fuel := 2) (i := 13) (v := .int .i64 0) 40 rfl rfl (by kernel_rfl) (by kernel_rfl) (by kernel_rfl) (fun _ _ _ h => h) (by refine .inl ⟨by kernel_rfl, fun wx hx => ?_⟩; unfold execOp; go_simp) KC7.out ?_
          simp only [Act.put, Act.eval, List.setIfInBounds_toArray, List.set_cons_succ, List.set_cons_zero]
          refine held_ready (fuel := 1) 14 (by kernel_rfl) ?_
          refine held_store_ud rfl _ _ rfl rfl (by kernel_rfl) U u ud0 rfl rfl KR7.out ⟨KC7.out.grown (only_row w7 U _) (fun e => by have := CU.out; injection e with e; omega), ?_⟩
          refine held_take (fuel := 0) (i := 15) 7 rfl rfl (by kernel_rfl) (by kernel_rfl) (by kernel_rfl) (fun _ _ _ h => h) (held_assign _ rfl (by kernel_rfl)) (KC7.out.grown (only_row w7 U _) (fun e => by have := CU.out; injection e with e; omega)) ?_
          refine wpAnyH_done (by kernel_rfl) ?_ _
          simp only [Act.put, Act.eval, List.setIfInBounds_toArray, List.set_cons_succ, List.set_cons_zero]
          generalize w7.setRow U u.cs = w8 at *
          go_wp2
          refine bodyPost_ret (ud_ct rfl _ _ U u KU8.out rfl) rfl ?_
          rw [HU.out]
          exact YES.out _ HK.out HL.out V8.out G8.out
      · have KR3 := Lib.hid ((KR.out.kept hb).alloc (.cells Im.zero.cs 122))
        have B3 := Lib.hid ((below_then B1.out hb B1.out.size).alloc (Nat.le_trans B1.out.size hb.size) (.cells Im.zero.cs 122))
        have HL := Lib.hid hlv
        clear hb hlv KR V1 B1 YES CF CH
        dsimp only
        as_aux_lemma =>
          go_upto_region 4 with (refine store_st_new rfl _ _ rfl Im.zero rfl rfl ?_; generalize w3.alloc (.cells Im.zero.cs 122) = w4 at *)
          go_wp2_with (first | (refine build_ud0 rfl rfl ?_) | (refine store_ud rfl _ _ rfl U ud0 ud0 rfl rfl KR3.out ?_))
          refine bodyPost_ret (ud_ct rfl _ _ U ud0 (ud_bk KR3.out) rfl) rfl ?_
          exact NN1.out _ HK.out HL.out (below_setRow B3.out UE.out.1 _)
  · rw [decide_eq_false hk]
    have HK := Lib.hid hk
    clear hk NN1 YES CF CH
    as_aux_lemma =>
      go_wp2_with (first | (refine build_ud0 rfl rfl ?_) | (refine store_ud rfl _ _ rfl U ud0 ud0 rfl rfl KR.out ?_))
      refine bodyPost_ret (ud_ct rfl _ _ U ud0 (ud_bk KR.out) rfl) rfl ?_
      exact NB.out _ HK.out (below_setRow B1.out UE.out.1 _)
end Go.Proofs.YtelbioooggnbiaaGreat
namespace Go.Proofs.YtelbioooggnbiaaGreat
open Go.RowKit Go.Maps

section
variable {ops : Array Oper} {rest : List Oper} {o : Oper} {a : Act} {w : World} {Q : Exit → Act → World → Prop}
theorem ud_cell {w : World} {g : Nat} {u : Ud} (h : Bk w g 72 u.cs) : w.rangeAt g 5 [.int .i64 u.c.st, .string u.c.d] := fun i v hv => by
  have hi : i < 2 := (List.getElem?_eq_some_iff.1 hv).1
  rw [h.cell]
  rcases (show i = 0 ∨ i = 1 by omega) with e | e <;> subst e <;> simp at hv <;> subst hv <;> rfl
theorem load_ud_cell (hgd : o.guard = none) (x : Operand) (ho : o.op = .load 35 x) (g : Nat) (u : Ud) (hx : a.eval x = .pointer (some ⟨g, 5, none⟩)) (hb : Bk w g 72 u.cs)
    (h : wpList Tryz.prog ops Q rest (a.put o.dst (.agg #[.int .i64 u.c.st, .string u.c.d])) w) : wpList Tryz.prog ops Q (o :: rest) a w :=
  wpList_load_mid hgd 35 x ho g 5 hx [.int .i64 u.c.st, .string u.c.d] _ (ud_cell hb) Tryz.underlying35 rfl (by show _ = some 2; kernel_rfl) (by simpa using h)
theorem store_ce (hgd : o.guard = none) (x y : Operand) (ho : o.op = .store 35 x y) (g : Nat) (s s' : Int) (d d' : ByteArray) (hx : a.eval x = .pointer (some ⟨g, 0, none⟩)) (hy : a.eval y = .agg #[.int .i64 s, .string d]) (hb : Bk w g 35 #[.int .i64 s', .string d']) (h : wpList Tryz.prog ops Q rest (a.put o.dst undef) (w.setRow g #[.int .i64 s, .string d])) : wpList Tryz.prog ops Q (o :: rest) a w :=
  wpList_store_row hgd 35 x y ho g #[.int .i64 s, .string d] hx hy 35 #[.int .i64 s', .string d'] hb (by show _ = some 2; kernel_rfl) rfl (by simp [Value.oneCell']) h
theorem ce_bk {w : World} {g : Nat} {s s' : Int} {d d' : ByteArray} (hb : Bk w g 35 #[.int .i64 s', .string d']) : Bk (w.setRow g #[.int .i64 s, .string d]) g 35 #[.int .i64 s, .string d] := setRow_heap _ _ _ _ _ _ hb
end
/-- What a key's cell is when it is taken back. -/
def backC (c0 c : Ce) : Ce := if c0.st = 0 then ghostC c else c0
def ResPost (w : World) (B g b gs r N M n : Nat) (und pg : Nat → Pg) (st : Nat → Int) (kd rt : Nat → Nat) (ow : Nat → Option Int) (sn H : Nat) (lf ids : List Nat) (R : List (ByteArray × Ce)) (ff : Prop) (k : ByteArray) (c0 : Ce) (e : Ending) (w' : World) : Prop :=
  ((∀ c, (k, c) ∉ R) ∧ e = .returned (.int .i64 150) ∧ Below w.heap.size w w') ∨
  (∃ (c : Ce) (R' : List (ByteArray × Ce)) (pg' : Nat → Pg), (k, c) ∈ R ∧ e = .returned (.int .i64 0) ∧ SV w' B g b gs r N (M + 1) und pg' ∧ Tv pg' n st kd rt ow sn H lf ids R' ff ∧ RSet R R' k (backC c0 c) ∧ w.grownBy w' (some b) ∧ ∀ i, i ∉ ids → pg' i = pg i)
theorem res_of {w w' : World} {B g b gs r N M n : Nat} {und pg : Nat → Pg} {st : Nat → Int} {kd rt : Nat → Nat} {ow : Nat → Option Int} {sn H : Nat} {lf ids : List Nat} {R : List (ByteArray × Ce)} {ff : Prop} (ht : Tv pg n st kd rt ow sn H lf ids R ff) (k : ByteArray) (c0 : Ce) (h0 : c0.st ≠ 0 → leafCellOk c0 ∧ c0.key = k)
    (hl : fThere (pg (dn pg k (rt (sn - 1)) H)) k = true)
    (hs : SV w' B g b gs r N (M + 1) und (upd pg (dn pg k (rt (sn - 1)) H) (putC (pg (dn pg k (rt (sn - 1)) H)) (fAt (pg (dn pg k (rt (sn - 1)) H)) k) (backC c0 ((pg (dn pg k (rt (sn - 1)) H)).c (fAt (pg (dn pg k (rt (sn - 1)) H)) k)))))) (hg : w.grownBy w' (some b)) :
    ResPost w B g b gs r N M n und pg st kd rt ow sn H lf ids R ff k c0 (.returned (.int .i64 0)) w' := by
  have hx := (ht.ix.there k _).2 ⟨hl, rfl⟩
  obtain ⟨e1, e2⟩ := ht.ix.row hx
  obtain ⟨n1, n2⟩ : leafCellOk (backC c0 ((pg (dn pg k (rt (sn - 1)) H)).c (fAt (pg (dn pg k (rt (sn - 1)) H)) k))) ∧ (backC c0 ((pg (dn pg k (rt (sn - 1)) H)).c (fAt (pg (dn pg k (rt (sn - 1)) H)) k))).key = k := by
    unfold backC
    split
    · exact ⟨(ghost_ok e2).1, (ghost_ok e2).2.1.trans e1⟩
    · rename_i h; exact h0 h
  obtain ⟨R', h1, h2⟩ := ht.set k hl n1 n2
  refine .inr ⟨_, R', _, hx, rfl, hs, h1, h2, hg, fun i hi => upd_ne _ _ fun e => hi ?_⟩
  rw [e]; exact (ht.ix.at_ k H (Nat.le_refl _)).2.1
end Go.Proofs.YtelbioooggnbiaaGreat
