/- A page more; the visitor of Insert. The visitor of Insert. Insert. -/
import Derived.Test.YtdhfcjplnbnkdaaHpRd
set_option linter.unusedVariables false
set_option linter.unusedSimpArgs false
namespace Go.Proofs.Ytdhfcjplnbnkdaa
open Go.RowKit Go.Maps

theorem below_grow0 (w : World) : w.grownBy w none := ⟨rfl, rfl, rfl, Nat.le_refl _, fun _ _ _ => rfl⟩
def lastOf (ch : List Nat) : Nat := ch.getD (ch.length - 1) 0
theorem Hc.last {pg : Nat → Pg} {n : Nat} {ch : List Nat} {L : Nat → Nat → Ce} (h : Hc pg n ch L) : lastOf ch ∈ ch ∧ lastOf ch < n ∧ (pg (lastOf ch)).ok := by
  have hl := h.len
  have := h.page (ch.length - 1) (by omega)
  exact ⟨getD_mem (by omega), this.2.1, this.2.2.2.2.2⟩
def GrowPost (w : World) (B g b gs r N M n : Nat) (und : Nat → Pg) (ch : List Nat) (L : Nat → Nat → Ce) (e : Ending) (w' : World) : Prop :=
  (e = .returned (.tuple #[.int .i64 0, .agg Pg.zero.cs, .int .i64 140]) ∧ n ≤ 2 + ch.length ∧ Below w.heap.size w w') ∨
  (∃ (id : Nat) (pg' : Nat → Pg), e = .returned (.tuple #[.int .i64 id, .agg pgK3.cs, .int .i64 0]) ∧ id < n ∧ SV w' B g b gs r N (M + 3) und pg' ∧ Hc pg' n (ch ++ [id]) L ∧ pg' id = pgK3 ∧ w.grownBy w' (some b))
theorem nextRow (p : Pg) (x : Int) : p.cs.setIfInBounds 3 (.int .i64 x) = (nextOf p x).cs := rfl
set_option maxRecDepth 100000 in
set_option maxHeartbeats 8000000 in
theorem grow_any {w : World} {B g b gs r N M n : Nat} {und pg : Nat → Pg} {ch : List Nat} {L : Nat → Nat → Ce} (h : SV w B g b gs r N M und pg) (hn : n ≤ N) (hc : Hc pg n ch L) (hM : M + 2 < maxLen) :
    Calls Try.prog 36 #[.pointer (some ⟨g, 0, none⟩), .int .i64 1, .int .i64 (lastOf ch : Nat), .agg (pg (lastOf ch)).cs] w (GrowPost w B g b gs r N M n und ch L) := by
  have NEG := Lib.hid h.gs_ne
  have LA := Lib.hid hc.last
  have HC := Lib.hid hc
  obtain ⟨st, kd, rt, ow, hv, hp, hst, hkd, hrt⟩ := hc.ex
  have HV := Lib.hid hv; have HP := Lib.hid hp; have HST := Lib.hid hst; have HKD := Lib.hid hkd; have HRT := Lib.hid hrt
  have HN := Lib.hid hn; have HM := Lib.hid hM
  have LN := Lib.hid hc.len
  obtain ⟨la, hla⟩ : ∃ la, la = lastOf ch := ⟨_, rfl⟩
  obtain ⟨pp, hpp⟩ : ∃ pp, pp = pg (lastOf ch) := ⟨_, rfl⟩
  have HLA := Lib.hid hla; have HPP := Lib.hid hpp
  rw [← hpp, ← hla]
  have V0 := Lib.hid h
  clear h hn hc hM hv hp hst hkd hrt hla hpp
  go_enter Try.func36, Try.ntmps36
  go_upto_region 1 with fail
  change Code.wp _ _ _ _ ((w.alloc (.cells pp.cs 40)).alloc (.cells Pg.zero.cs 40))
  have KP := Lib.hid ((Bk.new w 40 pp.cs).alloc (.cells Pg.zero.cs 40))
  have KR := Lib.hid (Bk.new2 w (.cells pp.cs 40) 40 Pg.zero.cs)
  have V1 := Lib.hid ((V0.out.alloc (.cells pp.cs 40)).alloc (.cells Pg.zero.cs 40))
  have G1 := Lib.hid (only_alloc (World.grownBy_alloc w (.cells pp.cs 40) none) (.cells Pg.zero.cs 40))
  obtain ⟨w1, hw1⟩ : ∃ w1, w1 = ((w.alloc (.cells pp.cs 40)).alloc (.cells Pg.zero.cs 40)) := ⟨_, rfl⟩
  rw [← hw1] at KP KR V1 G1 ⊢
  clear hw1 V0
  obtain ⟨R, hR⟩ : ∃ R, R = w.heap.size + 1 := ⟨_, rfl⟩
  rw [← hR] at KR ⊢
  obtain ⟨P, hP⟩ : ∃ P, P = w.heap.size := ⟨_, rfl⟩
  rw [← hP] at KP ⊢
  have SZ := Lib.hid (show P = w.heap.size ∧ R = w.heap.size + 1 from ⟨hP, hR⟩)
  clear hR hP
  have CT := Lib.hid (take_good V1.out (by have := LN.out; have := HN.out; omega) HV.out.m (by have := HM.out; omega))
  as_aux_lemma =>
    go_wp2_with fail
    refine CT.out.mono ?_
    rintro e w2 (⟨hfull, rfl, hb⟩ | ⟨id, hid, ho, ha, rfl, hsv, hg⟩)
    · have FL := Lib.hid (all_owned fun i hi => HP.out.only i hi (by rw [← HV.out.own i hi]; exact hfull i hi))
      clear hfull
      have KR2 := Lib.hid (KR.out.kept hb)
      have KR3 := Lib.hid (row_bk (p := Pg.zero) KR2.out)
      have B3 := Lib.hid (below_only (only_setRow (only_trans G1.out (only_below hb none)) (show w.heap.size ≤ R by have := SZ.out; omega) Pg.zero.cs))
      clear hb CT V1 KP KR G1
      go_wp2_with (first | (refine build_pg0 rfl rfl ?_) | (refine store_page rfl _ _ rfl R Pg.zero Pg.zero rfl rfl KR2.out ?_; generalize w2.setRow R Pg.zero.cs = w3 at *))
      refine bodyPost_ret (page_tct rfl _ _ R Pg.zero.cs KR3.out rfl rfl) rfl ?_
      exact .inl ⟨rfl, FL.out, B3.out⟩
    · rw [HV.out.own id hid] at ho
      have hon : ow id = none := by cases ho2 : ow id with | none => rfl | some x => rw [ho2] at ho; cases ho
      have h22 : 2 ≤ id := by
        by_cases e0 : id = 0
        · subst e0; rw [HV.out.z.1] at hon; cases hon
        · by_cases e1 : id = 1
          · subst e1; rw [HV.out.z.2] at hon; cases hon
          · omega
      obtain ⟨pg2, hpg2⟩ : ∃ pg2, pg2 = upd pg 1 (mrk (pg 1) id true) := ⟨_, rfl⟩
      have VT := Lib.hid (HV.out.take id h22 hid)
      rw [← hpg2] at VT hsv
      have SM := Lib.hid (show ∀ i, 2 ≤ i → pg2 i = pg i from fun i hi => by rw [hpg2]; unfold upd; rw [if_neg (by omega)])
      have ID := Lib.hid (show 2 ≤ id ∧ id < n ∧ ow id = none from ⟨h22, hid, hon⟩)
      have HG := Lib.hid (HC.out.grow HV.out HP.out HST.out HKD.out HRT.out h22 hid hon VT.out SM.out)
      rw [show ch.getD (ch.length - 1) 0 = lastOf ch from rfl, ← HLA.out, show pg la = pp from by rw [HLA.out]; exact HPP.out.symm] at HG
      have NOK := Lib.hid (show (nextOf pp id).ok from by
        have h1 := LA.out.2.2
        rw [← HPP.out] at h1
        refine ⟨?_, h1.2⟩
        have h2 := h1.1
        have := LN.out
        unfold Pg.head nextOf at *
        dsimp only
        omega)
      have V2 := Lib.hid hsv
      have KP2 := Lib.hid (KP.out.grown hg (fun e => by have := SZ.out; have := NEG.out; injection e with e; omega))
      have KR2 := Lib.hid (KR.out.grown hg (fun e => by have := SZ.out; have := NEG.out; injection e with e; omega))
      have G2 := Lib.hid (only_trans (World.grownBy.but G1.out (some b)) hg)
      clear hsv hg ho ha hpg2 CT V1 KP KR G1 hid hon h22
      have f3 : w2.frozen? ⟨P, 3, none⟩ = false := KP2.out.fz 3
      have x3 : w2.cell? ⟨P, 3, none⟩ = some (.int .i64 pp.n) := KP2.out.cell 3
      have KP3 := Lib.hid (show Bk (w2.setCell ⟨P, 3, none⟩ (.int .i64 id)) P 40 (nextOf pp id).cs from by have := KP2.out.set 3 (.int .i64 (id : Int)); rw [nextRow] at this; exact this)
      have KR3 := Lib.hid (KR2.out.far (p := ⟨P, 3, none⟩) (by show R ≠ P; have := SZ.out; omega) (.int .i64 id))
      have V3 := Lib.hid (V2.out.grown (only_set (World.grownBy.but (below_grow0 w2) (some P)) 3 (.int .i64 id)) (fun k hk => by cases hk; have := SZ.out; have := NEG.out; omega))
      have G3 := Lib.hid (only_set_new G2.out (p := ⟨P, 3, none⟩) (by show w.heap.size ≤ P; have := SZ.out; omega) (.int .i64 id))
      as_aux_lemma =>
        go_upto_region 5 with fail
        generalize w2.setCell ⟨P, 3, none⟩ (.int .i64 id) = w3 at *
        clear KP2 KR2 V2 G2 f3 x3
        have CS := Lib.hid (sv_set V3.out la (by have := LA.out; have := HN.out; rw [HLA.out]; omega) (nextOf pp id) NOK.out (by have := HM.out; omega))
        go_wp2_with (refine load_page rfl _ rfl P (nextOf pp id) rfl KP3.out ?_)
        refine CS.out.mono ?_
        rintro e w4 ⟨rfl, hsv, hg⟩
        have V4 := Lib.hid (hsv.alloc (.cells pgK3.cs 40))
        have KR4 := Lib.hid ((KR3.out.grown hg (fun e => by have := SZ.out; have := NEG.out; injection e with e; omega)).alloc (.cells pgK3.cs 40))
        have G4 := Lib.hid (only_alloc (only_trans G3.out hg) (.cells pgK3.cs 40))
        have KQ := Lib.hid (Bk.new w4 40 pgK3.cs)
        obtain ⟨Q, hQ⟩ : ∃ Q, Q = w4.heap.size := ⟨_, rfl⟩
        rw [← hQ] at KQ
        have QZ := Lib.hid (show w.heap.size ≤ Q ∧ Q ≠ R from by have h1 := (KR3.out.grown hg (fun e => by have := SZ.out; have := NEG.out; injection e with e; omega)).lt; have := SZ.out; omega)
        clear hsv hg CS V3 KP3 KR3 G3
        as_aux_lemma =>
          go_upto_region 9 with (first | (refine build_pgH rfl _ rfl rfl ?_) | (refine store_page_new rfl _ _ rfl pgK3 rfl rfl ?_; rw [← hQ]; clear hQ; generalize w4.alloc (.cells pgK3.cs 40) = w5 at *))
          have CS2 := Lib.hid (sv_set V4.out id (by have := ID.out; have := HN.out; omega) pgK3 pgK3_ok (by have := HM.out; omega))
          go_wp2_with (refine load_page rfl _ rfl Q pgK3 rfl KQ.out ?_)
          refine CS2.out.mono ?_
          rintro e w6 ⟨rfl, hsv, hg⟩
          have V6 := Lib.hid hsv
          have KR6 := Lib.hid (KR4.out.grown hg (fun e => by have := SZ.out; have := NEG.out; injection e with e; omega))
          have KQ6 := Lib.hid (KQ.out.grown hg (fun e => by have := QZ.out; have := NEG.out; injection e with e; omega))
          have G6 := Lib.hid (only_trans G4.out hg)
          have FV := Lib.hid (show SV (w6.drew.setRow R pgK3.cs) B g b gs r N (M + 3) und (upd (upd pg2 la (nextOf pp id)) id pgK3) from V6.out.drew.grown (row := some R) (only_row w6.drew R _) (fun k hk => by cases hk; have := SZ.out; have := NEG.out; omega))
          have FG := Lib.hid (only_setRow (only_drew G6.out) (show w.heap.size ≤ R by have := SZ.out; omega) pgK3.cs)
          clear hsv hg CS2 V4 KR4 KQ G4 V6 G6
          as_aux_lemma =>
            go_upto_region 12 with fail
            refine wp_region_held (S := fun w' => Bk w' Q 40 pgK3.cs) (by kernel_rfl) ?_
            refine held_take (fuel := 4) (i := 0) 45 rfl rfl (by kernel_rfl) (by kernel_rfl) (by kernel_rfl) (fun _ _ _ h => h) (held_move _ rfl (by kernel_rfl)) KQ6.out.drew ?_
            refine held_take (fuel := 3) (i := 1) 46 rfl rfl (by kernel_rfl) (by kernel_rfl) (by kernel_rfl) (fun _ _ _ h => h) (held_page _ rfl (by kernel_rfl) Q pgK3 rfl (fun w h => h)) KQ6.out.drew ?_
            refine held_take (fuel := 2) (i := 2) 8 rfl rfl (by kernel_rfl) (by kernel_rfl) (by kernel_rfl) (fun _ _ _ h => h) (held_assign _ rfl (by kernel_rfl)) KQ6.out.drew ?_
            simp only [Act.put, Act.eval, List.setIfInBounds_toArray, List.set_cons_succ, List.set_cons_zero]
            refine held_ready (fuel := 1) 3 (by kernel_rfl) ?_
            refine held_store rfl _ _ rfl rfl (by kernel_rfl) R pgK3 Pg.zero rfl rfl KR6.out.drew ⟨row_far KQ6.out.drew QZ.out.2, ?_⟩
            refine held_take (fuel := 0) (i := 4) 10 rfl rfl (by kernel_rfl) (by kernel_rfl) (by kernel_rfl) (fun _ _ _ h => h) (held_assign _ rfl (by kernel_rfl)) (row_far KQ6.out.drew QZ.out.2) ?_
            refine wpAnyH_done (by kernel_rfl) ?_ _
            simp only [Act.put, Act.eval, List.setIfInBounds_toArray, List.set_cons_succ, List.set_cons_zero]
            have FR := Lib.hid (show Bk (w6.drew.setRow R pgK3.cs) R 40 pgK3.cs from row_bk KR6.out.drew)
            generalize hW : World.setRow _ R pgK3.cs = wF
            have FR2 := Lib.hid (show Bk wF R 40 pgK3.cs by rw [← hW]; exact FR.out)
            have FV2 := Lib.hid (show SV wF B g b gs r N (M + 3) und (upd (upd pg2 la (nextOf pp id)) id pgK3) by rw [← hW]; exact FV.out)
            have FG2 := Lib.hid (show w.grownBy wF (some b) by rw [← hW]; exact FG.out)
            clear hW FR FV FG
            go_wp2
            refine bodyPost_ret (page_tct rfl _ _ R pgK3.cs FR2.out rfl rfl) rfl ?_
            refine .inr ⟨id, _, rfl, ID.out.2.1, FV2.out, HG.out, ?_, FG2.out⟩
            unfold upd; rw [if_pos rfl]
end Go.Proofs.Ytdhfcjplnbnkdaa
namespace Go.Proofs.Ytdhfcjplnbnkdaa
open Go.RowKit Go.Maps

/-- What the first free cell of a page is, told by a place and a bool. -/
def VacIs (p : Pg) (id m : Nat) (f : Nat → Int) (sl : Nat) (fd : Bool) : Prop := (fd = true → free1 p id m f sl ∧ ∀ q, q < sl → ¬ free1 p id m f q) ∧ sl < 6 ∧ (fd = false → ∀ i, i < 6 → ¬ free1 p id m f i)
theorem vacant_is (p : Pg) (id : Nat) (hid : id < 1024) (v : Value) (m : Nat) (f : Nat → Int) (w : World) (h : Ks w v m f) :
    Calls Try.prog 35 #[.int .i64 id, .agg p.cs, v] w fun e w' => ∃ (sl : Nat) (fd : Bool), e = .returned (.tuple #[.int .i64 sl, .bool fd]) ∧ VacIs p id m f sl fd ∧ Below w.heap.size w w' :=
  (vacant_any p id hid v m f w h).mono fun e w' hp => by
    rcases hp with ⟨hno, he, hb⟩ | ⟨i, hi, hf, hq, he, hb⟩
    · exact ⟨0, false, he, ⟨fun h => (by cases h), by omega, fun _ => hno⟩, hb⟩
    · exact ⟨i, true, he, ⟨fun _ => ⟨hf, hq⟩, hi, fun h => (by cases h)⟩, hb⟩
section
variable {ops : Array Oper} {Q : Exit → Act → World → Prop} {K : Act → World → Prop} {i : Nat} {o : Oper} {a : Act} {w : World}
theorem held_store_int (hi : ops[i]? = some o) (x y : Operand) (ho : o.op = .store 3 x y) (hd : o.dst = none) (hw : Region.wanted o (yielded ops a.tmps) = true) (g : Nat) (p q : Int)
    (hx : a.eval x = .pointer (some ⟨g, 0, none⟩)) (hy : a.eval y = .int .i64 p) (hb : Bk w g 3 #[.int .i64 q]) (h : K a (w.setCell ⟨g, 0, none⟩ (.int .i64 p))) : wpOp Try.prog ops Q i K a w := by
  have c0 : w.cell? ⟨g, 0, none⟩ = some (.int .i64 q) := hb.cell 0
  have f0 : w.frozen? ⟨g, 0, none⟩ = false := hb.fz 0
  refine held_wp hi hw ?_
  unfold Oper.wp execOp
  simp only [ho, hx, hy]
  go_simp
  exact h
end
theorem ks_of {w w' : World} {B : Nat} {v : Value} {m : Nat} {f : Nat → Int} (hm : m ≤ 9223372036854775807) (h : Row w B .i64 v m f) (hb : Below B w w') (hB : B ≤ w'.heap.size) : Ks w' v m f := ⟨hm, (h.below hb (Nat.le_refl _)).mono hB⟩
set_option maxRecDepth 100000 in
set_option maxHeartbeats 8000000 in
theorem visit_ins (id : Nat) (hid : id < 1024) (p p0 : Pg) (kv : Value) (m : Nat) (f : Nat → Int) (B A P K S F : Nat) (a0 s0 : Int) (f0 : Bool) (w : World) (hm : m ≤ 9223372036854775807) (hrow : Row w B .i64 kv m f)
    (hA : Bk w A 3 #[.int .i64 a0]) (hP : Bk w P 40 p0.cs) (hK : Bk w K 35 #[kv]) (hS : Bk w S 3 #[.int .i64 s0]) (hF : Bk w F 4 #[.bool f0]) (hAS : A ≠ S) (hB : B ≤ A ∧ B ≤ P ∧ B ≤ S ∧ B ≤ F) :
    Calls Try.prog 34 #[.int .i64 id, .agg p.cs, .pointer (some ⟨A, 0, none⟩), .pointer (some ⟨P, 0, none⟩), .pointer (some ⟨K, 0, none⟩), .pointer (some ⟨S, 0, none⟩), .pointer (some ⟨F, 0, none⟩)] w fun e w' =>
      ∃ (sl : Nat) (fd : Bool), e = .returned (.bool fd) ∧ VacIs p id m f sl fd ∧ Bk w' A 3 #[.int .i64 id] ∧ Bk w' P 40 p.cs ∧ Bk w' S 3 #[.int .i64 sl] ∧ Bk w' F 4 #[.bool fd] ∧
        ∃ w1 w2 w3, w.grownBy w1 (some A) ∧ w1.grownBy w2 (some P) ∧ w2.grownBy w3 (some S) ∧ w3.grownBy w' (some F) := by
  have G := Lib.hid (Bk.new w 40 p.cs)
  have A0 := Lib.hid (hA.alloc (.cells p.cs 40)); have P0 := Lib.hid (hP.alloc (.cells p.cs 40)); have K0 := Lib.hid (hK.alloc (.cells p.cs 40)); have S0 := Lib.hid (hS.alloc (.cells p.cs 40)); have F0 := Lib.hid (hF.alloc (.cells p.cs 40))
  have GA := Lib.hid (World.grownBy_alloc w (.cells p.cs 40) none)
  have ROW := Lib.hid hrow
  have AP := Lib.hid (Bk.ne_ hA hP (by decide)); have AK := Lib.hid (Bk.ne_ hA hK (by decide)); have AF := Lib.hid (Bk.ne_ hA hF (by decide))
  have PK := Lib.hid (Bk.ne_ hP hK (by decide)); have PS := Lib.hid (Bk.ne_ hP hS (by decide)); have PF := Lib.hid (Bk.ne_ hP hF (by decide)); have KS := Lib.hid (Bk.ne_ hK hS (by decide)); have KF := Lib.hid (Bk.ne_ hK hF (by decide)); have SF := Lib.hid (Bk.ne_ hS hF (by decide))
  have AS := Lib.hid hAS; have HB := Lib.hid hB
  have NE := Lib.hid (show A ≠ w.heap.size ∧ P ≠ w.heap.size ∧ S ≠ w.heap.size ∧ F ≠ w.heap.size by have := hA.lt; have := hP.lt; have := hS.lt; have := hF.lt; omega)
  have BW := Lib.hid (show B ≤ w.heap.size by have := hA.lt; omega)
  clear hA hP hK hS hF hAS hB hrow
  go_enter Try.func34, Try.ntmps34
  go_upto_region 1 with fail
  generalize w.alloc (.cells p.cs 40) = w0 at *
  obtain ⟨g, hg⟩ : ∃ g, g = w.heap.size := ⟨_, rfl⟩
  rw [← hg] at G NE ⊢
  clear hg
  refine wp_region_held (S := fun w' => Bk w' g 40 p.cs) (by kernel_rfl) ?_
  refine held_take (fuel := 3) (i := 0) 10 rfl rfl (by kernel_rfl) (by kernel_rfl) (by kernel_rfl) (fun _ _ _ h => h) (held_move _ rfl (by kernel_rfl)) G.out.drew ?_
  refine held_take (fuel := 2) (i := 1) 11 rfl rfl (by kernel_rfl) (by kernel_rfl) (by kernel_rfl) (fun _ _ _ h => h) (held_page _ rfl (by kernel_rfl) g p rfl (fun w h => h)) G.out.drew ?_
  simp only [Act.put, Act.eval, List.setIfInBounds_toArray, List.set_cons_succ, List.set_cons_zero]
  have A1 := Lib.hid (A0.out.drew.set 0 (.int .i64 (id : Int)))
  have P1 := Lib.hid (P0.out.drew.far (p := ⟨A, 0, none⟩) (by show P ≠ A; exact AP.out.symm) (.int .i64 (id : Int)))
  have K1 := Lib.hid (K0.out.drew.far (p := ⟨A, 0, none⟩) (by show K ≠ A; exact AK.out.symm) (.int .i64 (id : Int)))
  have S1 := Lib.hid (S0.out.drew.far (p := ⟨A, 0, none⟩) (by show S ≠ A; exact AS.out.symm) (.int .i64 (id : Int)))
  have F1 := Lib.hid (F0.out.drew.far (p := ⟨A, 0, none⟩) (by show F ≠ A; exact AF.out.symm) (.int .i64 (id : Int)))
  have g1 := Lib.hid (G.out.drew.far (p := ⟨A, 0, none⟩) (by show g ≠ A; exact NE.out.1.symm) (.int .i64 (id : Int)))
  have GB := Lib.hid (show w.grownBy (w0.drew.setCell ⟨A, 0, none⟩ (.int .i64 id)) (some A) from only_set (only_drew (World.grownBy.but GA.out (some A))) 0 _)
  refine held_ready (fuel := 1) 2 (by kernel_rfl) ?_
  refine held_store_int rfl _ _ rfl rfl (by kernel_rfl) A id a0 rfl rfl A0.out.drew ⟨g1.out, ?_⟩
  obtain ⟨w1, hw1⟩ : ∃ w1, w1 = w0.drew.setCell ⟨A, 0, none⟩ (.int .i64 id) := ⟨_, rfl⟩
  rw [← hw1] at A1 P1 K1 S1 F1 g1 GB
  change wpAnyH _ _ _ _ _ _ _ _ (w0.drew.setCell ⟨A, 0, none⟩ (.int .i64 id))
  rw [← hw1]
  clear hw1 A0 P0 K0 S0 F0 G GA
  have A2 := Lib.hid (row_far (cs := p.cs) A1.out AP.out)
  have P2 := Lib.hid (row_bk (p := p) P1.out)
  have K2 := Lib.hid (row_far (cs := p.cs) K1.out PK.out.symm)
  have S2 := Lib.hid (row_far (cs := p.cs) S1.out PS.out.symm)
  have F2 := Lib.hid (row_far (cs := p.cs) F1.out PF.out.symm)
  have g2 := Lib.hid (row_far (cs := p.cs) g1.out NE.out.2.1.symm)
  have GC := Lib.hid (show w1.grownBy (w1.setRow P p.cs) (some P) from only_row w1 P _)
  refine held_ready (fuel := 0) 3 (by kernel_rfl) ?_
  refine held_store rfl _ _ rfl rfl (by kernel_rfl) P p p0 rfl rfl P1.out ⟨g2.out, ?_⟩
  refine wpAnyH_done (by kernel_rfl) ?_ _
  generalize w1.setRow P p.cs = w2 at *
  clear A1 P1 K1 S1 F1 g1
  have B2 := Lib.hid (show Below B w w2 from bl_grow (bl_grow (Below.refl _ _) GB.out (fun j hj => by cases hj; exact HB.out.1) BW.out) GC.out (fun j hj => by cases hj; exact HB.out.2.1) (Nat.le_trans BW.out GB.out.size))
  have CV := Lib.hid (vacant_is p id hid kv m f w2 (ks_of hm ROW.out B2.out (Nat.le_trans BW.out B2.out.size)))
  have k0 : w2.cell? ⟨K, 0, none⟩ = some kv := K2.out.cell 0
  as_aux_lemma =>
    go_wp2_with (refine load_page rfl _ rfl g p rfl g2.out ?_)
    refine CV.out.mono ?_
    rintro e w3 ⟨sl, fd, rfl, hv, hb⟩
    have HV := Lib.hid hv
    have A3 := Lib.hid (A2.out.kept hb); have P3 := Lib.hid (P2.out.kept hb); have S3 := Lib.hid (S2.out.kept hb); have F3 := Lib.hid (F2.out.kept hb)
    have GD := Lib.hid (only_below hb (some S))
    clear hv hb CV k0 A2 P2 K2 S2 F2 g2 B2
    have c1 : w3.cell? ⟨S, 0, none⟩ = some (.int .i64 s0) := S3.out.cell 0
    have c2 : w3.frozen? ⟨S, 0, none⟩ = false := S3.out.fz 0
    have d1 : w3.cell? ⟨F, 0, none⟩ = some (.bool f0) := F3.out.cell 0
    have d2 : w3.frozen? ⟨F, 0, none⟩ = false := F3.out.fz 0
    have sf : S ≠ F := SF.out
    have fs : F ≠ S := SF.out.symm
    have FIN := Lib.hid (show Bk ((w3.setCell ⟨S, 0, none⟩ (.int .i64 sl)).setCell ⟨F, 0, none⟩ (.bool fd)) A 3 #[.int .i64 id] ∧ Bk ((w3.setCell ⟨S, 0, none⟩ (.int .i64 sl)).setCell ⟨F, 0, none⟩ (.bool fd)) P 40 p.cs ∧ Bk ((w3.setCell ⟨S, 0, none⟩ (.int .i64 sl)).setCell ⟨F, 0, none⟩ (.bool fd)) S 3 #[.int .i64 sl] ∧ Bk ((w3.setCell ⟨S, 0, none⟩ (.int .i64 sl)).setCell ⟨F, 0, none⟩ (.bool fd)) F 4 #[.bool fd] ∧
        ∃ v1 v2 v3, w.grownBy v1 (some A) ∧ v1.grownBy v2 (some P) ∧ v2.grownBy v3 (some S) ∧ v3.grownBy ((w3.setCell ⟨S, 0, none⟩ (.int .i64 sl)).setCell ⟨F, 0, none⟩ (.bool fd)) (some F) from
      ⟨(A3.out.far (by show A ≠ S; exact AS.out) _).far (by show A ≠ F; exact AF.out) _, (P3.out.far (by show P ≠ S; exact PS.out) _).far (by show P ≠ F; exact PF.out) _, (S3.out.set 0 _).far (by show S ≠ F; exact SF.out) _, (F3.out.far (by show F ≠ S; exact SF.out.symm) _).set 0 _,
        w1, w2, w3.setCell ⟨S, 0, none⟩ (.int .i64 sl), GB.out, GC.out, only_set GD.out 0 _, only_set (World.grownBy.but (below_grow0 _) (some F)) 0 _⟩)
    clear A3 P3 S3 F3 GB GC GD
    go_wp2
    go_ret
    exact ⟨sl, fd, rfl, HV.out, FIN.out⟩
end Go.Proofs.Ytdhfcjplnbnkdaa
namespace Go.Proofs.Ytdhfcjplnbnkdaa
open Go.RowKit Go.Maps

/-- Each place of these pages has a record. -/
def AllL (ch : List Nat) (L : Nat → Nat → Ce) : Prop := ∀ p, p ∈ ch → ∀ i, i < 6 → (L p i).st = 1
def InsPost (X : Prop) (w : World) (B g b gs r N M n : Nat) (und : Nat → Pg) (ch : List Nat) (L : Nat → Nat → Ce) (val : ByteArray) (m : Nat) (f : Nat → Int) (e : Ending) (w' : World) : Prop :=
  (32 < val.size ∧ e = .returned (.tuple #[.int .i64 0, .agg ud0.cs, .int .i64 2]) ∧ Below w.heap.size w w') ∨
  (val.size ≤ 32 ∧ e = .returned (.tuple #[.int .i64 0, .agg ud0.cs, .int .i64 140]) ∧ ¬ X ∧ (m = 0 → AllL ch L ∧ n ≤ 2 + ch.length) ∧ ∃ M' pg' ch', M' ≤ M + 15 ∧ SV w' B g b gs r N M' und pg' ∧ Hc pg' n ch' L ∧ w.grownBy w' (some b)) ∨
  (∃ p s : Nat, val.size ≤ 32 ∧ s < 6 ∧ p < n ∧ (L p s).st ≠ 1 ∧ ¬ onK m f ((p : Int) * 8 + (s : Int)) ∧ e = .returned (.tuple #[.int .i64 ((p : Int) * 8 + (s : Int)), .agg (udC p s (L p s)).cs, .int .i64 0]) ∧
    (X → p = ch.getD 0 0 ∧ s = 0) ∧ ∃ M' pg' ch', p ∈ ch' ∧ M' ≤ M + 16 ∧ SV w' B g b gs r N M' und pg' ∧ Hc pg' n ch' (putL L p s ⟨1, val⟩) ∧ w.grownBy w' (some b))
def InsSt (X : Prop) (w wr : World) (B g b gs r N M n : Nat) (und : Nat → Pg) (ch0 : List Nat) (L : Nat → Nat → Ce) (kv : Value) (m : Nat) (f : Nat → Int) (K U A S P F : Nat) (gr : Nat) (er : Int) (fd : Bool) : Prop :=
  ∃ (ad : Nat) (pp : Pg) (sl : Nat) (pg' : Nat → Pg) (ch' : List Nat) (M' : Nat),
    SV wr B g b gs r N M' und pg' ∧ M' ≤ M + 3 * gr ∧ Hc pg' n ch' L ∧ Bk wr A 3 #[.int .i64 ad] ∧ Bk wr P 40 pp.cs ∧ Bk wr S 3 #[.int .i64 sl] ∧ Bk wr F 4 #[.bool fd] ∧ Bk wr K 35 #[kv] ∧ Bk wr U 45 ud0.cs ∧ w.grownBy wr (some b) ∧ (X → er = 0 ∧ fd = true ∧ ad = ch0.getD 0 0 ∧ sl = 0) ∧
    ((er = 140 ∧ (m = 0 → AllL ch0 L ∧ n ≤ 2 + ch0.length)) ∨
     (er = 0 ∧ ad ∈ ch' ∧ pp = pg' ad ∧ VacIs pp ad m f sl fd ∧ (fd = false → ad = lastOf ch' ∧ (m = 0 → gr = 0 ∧ ch' = ch0 ∧ AllL ch0 L))))
theorem AllL.of {pg : Nat → Pg} {n : Nat} {ch : List Nat} {L : Nat → Nat → Ce} (h : Hc pg n ch L) {m : Nat} {f : Nat → Int} (hm : m = 0) (ha : ∀ q, q < ch.length → ∀ j, j < 6 → ¬ free1 (pg (ch.getD q 0)) (ch.getD q 0) m f j) : AllL ch L := fun p hp i hi => by
  obtain ⟨q, hq, e⟩ := mem_getD hp
  have h1 := ha q hq i hi
  rw [e] at h1
  rw [← h.cell hp hi]
  refine Decidable.byContradiction fun hne => h1 ⟨hne, fun ⟨k, hk, _⟩ => by omega⟩
theorem last_app (ch : List Nat) (id : Nat) : lastOf (ch ++ [id]) = id := by
  unfold lastOf
  rw [List.length_append, show ch.length + [id].length - 1 = ch.length from rfl, List.getD_eq_getElem?_getD, List.getElem?_append_right (Nat.le_refl _), Nat.sub_self]; rfl
theorem free_blank (id : Nat) (f : Nat → Int) : free1 pgK3 id 0 f 0 := ⟨by decide, fun ⟨k, hk, _⟩ => by omega⟩
set_option maxRecDepth 100000 in
set_option maxHeartbeats 6000000 in
theorem insert_any {w : World} {B g b gs r N M n : Nat} {und pg : Nat → Pg} {ch : List Nat} {L : Nat → Nat → Ce} (h : SV w B g b gs r N M und pg) (hn : n ≤ N) (hc : Hc pg n ch L) (hM : M + 16 < maxLen) (val : ByteArray) (kv : Value) (m : Nat) (f : Nat → Int) (hm : m ≤ 9223372036854775807) (hk : Row w B .i64 kv m f) :
    Calls Try.prog 14 #[.pointer (some ⟨g, 0, none⟩), .int .i64 1, .string val, kv] w (InsPost (free1 (pg (ch.getD 0 0)) (ch.getD 0 0) m f 0) w B g b gs r N M n und ch L val m f) := by
  obtain ⟨ka, kc, rfl, hk0, hk1⟩ := hk
  have hk : Row w B .i64 (.slice ka m kc) m f := ⟨ka, kc, rfl, hk0, hk1⟩
  clear hk0 hk1
  have V0 := Lib.hid h; have HC := Lib.hid hc; have HN := Lib.hid hn; have HM := Lib.hid hM; have HK := Lib.hid hk; have MM := Lib.hid hm
  have NEG := Lib.hid h.gs_ne
  have BB := Lib.hid h.bb
  have LN := Lib.hid hc.len
  obtain ⟨X, hX⟩ : ∃ X, X = free1 (pg (ch.getD 0 0)) (ch.getD 0 0) m f 0 := ⟨_, rfl⟩
  have XE := Lib.hid hX
  rw [← hX]
  clear h hc hn hM hk hm hX
  go_enter Try.func14, Try.ntmps14
  go_upto_region 1 with fail
  change Code.wp _ _ _ _ ((w.alloc (.cells #[.slice ka m kc] 35)).alloc (.cells ud0.cs 45))
  by_cases hv : (32 : Int) < (val.size : Int)
  · have HV := Lib.hid (show 32 < val.size by omega)
    have KU := Lib.hid (Bk.new2 w (.cells #[.slice ka m kc] 35) 45 ud0.cs)
    have G1 := Lib.hid (only_alloc (World.grownBy_alloc w (.cells #[.slice ka m kc] 35) none) (.cells ud0.cs 45))
    generalize (w.alloc (.cells #[.slice ka m kc] 35)).alloc (.cells ud0.cs 45) = w1 at *
    obtain ⟨U, hU⟩ : ∃ U, U = w.heap.size + 1 := ⟨_, rfl⟩
    rw [← hU] at KU ⊢
    have KU2 := Lib.hid (ud_bk (p := ud0) KU.out)
    have B2 := Lib.hid (below_only (only_setRow G1.out (show w.heap.size ≤ U by omega) ud0.cs))
    clear V0 HK G1 hU
    go_wp2_with (first | (refine build_ud0 rfl rfl ?_) | (refine store_ud rfl _ _ rfl U ud0 ud0 rfl rfl KU.out ?_; generalize w1.setRow U ud0.cs = w2 at *))
    refine bodyPost_ret (ud_tct rfl _ _ U ud0 KU2.out rfl) rfl ?_
    exact .inl ⟨HV.out, rfl, B2.out⟩
  have hvn : ¬ 32 < val.size := by omega
  have HV := Lib.hid (show val.size ≤ 32 by omega)
  as_aux_lemma =>
    go_upto_region 6 with fail
    change Code.wp _ _ _ _ ((((((w.alloc (.cells #[.slice ka m kc] 35)).alloc (.cells ud0.cs 45)).alloc (.cells #[.int .i64 0] 3)).alloc (.cells #[.int .i64 0] 3)).alloc (.cells Pg.zero.cs 40)).alloc (.cells #[.bool false] 4))
    have KK := Lib.hid ((((((Bk.new w 35 #[.slice ka m kc]).alloc (.cells ud0.cs 45)).alloc (.cells #[.int .i64 0] 3)).alloc (.cells #[.int .i64 0] 3)).alloc (.cells Pg.zero.cs 40)).alloc (.cells #[.bool false] 4))
    have KU := Lib.hid (((((Bk.new2 w (.cells #[.slice ka m kc] 35) 45 ud0.cs).alloc (.cells #[.int .i64 0] 3)).alloc (.cells #[.int .i64 0] 3)).alloc (.cells Pg.zero.cs 40)).alloc (.cells #[.bool false] 4))
    have KA := Lib.hid ((((Bk.new3 w (.cells #[.slice ka m kc] 35) (.cells ud0.cs 45) 3 #[.int .i64 0]).alloc (.cells #[.int .i64 0] 3)).alloc (.cells Pg.zero.cs 40)).alloc (.cells #[.bool false] 4))
    have KS := Lib.hid (((bk_at (w := (((w.alloc (.cells #[.slice ka m kc] 35)).alloc (.cells ud0.cs 45)).alloc (.cells #[.int .i64 0] 3))) (k := w.heap.size + 1 + 1 + 1) (by simp) 3 #[.int .i64 0]).alloc (.cells Pg.zero.cs 40)).alloc (.cells #[.bool false] 4))
    have KP := Lib.hid ((bk_at (w := ((((w.alloc (.cells #[.slice ka m kc] 35)).alloc (.cells ud0.cs 45)).alloc (.cells #[.int .i64 0] 3)).alloc (.cells #[.int .i64 0] 3))) (k := w.heap.size + 1 + 1 + 1 + 1) (by simp) 40 Pg.zero.cs).alloc (.cells #[.bool false] 4))
    have KF := Lib.hid (bk_at (w := (((((w.alloc (.cells #[.slice ka m kc] 35)).alloc (.cells ud0.cs 45)).alloc (.cells #[.int .i64 0] 3)).alloc (.cells #[.int .i64 0] 3)).alloc (.cells Pg.zero.cs 40))) (k := w.heap.size + 1 + 1 + 1 + 1 + 1) (by simp) 4 #[.bool false])
    have V6 := Lib.hid ((((((V0.out.alloc (.cells #[.slice ka m kc] 35)).alloc (.cells ud0.cs 45)).alloc (.cells #[.int .i64 0] 3)).alloc (.cells #[.int .i64 0] 3)).alloc (.cells Pg.zero.cs 40)).alloc (.cells #[.bool false] 4))
    have B6 := Lib.hid (below_only (only_alloc (only_alloc (only_alloc (only_alloc (only_alloc (World.grownBy_alloc w (.cells #[.slice ka m kc] 35) none) (.cells ud0.cs 45)) (.cells #[.int .i64 0] 3)) (.cells #[.int .i64 0] 3)) (.cells Pg.zero.cs 40)) (.cells #[.bool false] 4)))
    obtain ⟨w6, hw6⟩ : ∃ w6, w6 = ((((((w.alloc (.cells #[.slice ka m kc] 35)).alloc (.cells ud0.cs 45)).alloc (.cells #[.int .i64 0] 3)).alloc (.cells #[.int .i64 0] 3)).alloc (.cells Pg.zero.cs 40)).alloc (.cells #[.bool false] 4)) := ⟨_, rfl⟩
    rw [← hw6] at KK KU KA KS KP KF V6 B6 ⊢
    clear hw6 V0
    obtain ⟨F, hF⟩ : ∃ F, F = w.heap.size + 1 + 1 + 1 + 1 + 1 := ⟨_, rfl⟩
    rw [← hF] at KF ⊢
    obtain ⟨P, hP⟩ : ∃ P, P = w.heap.size + 1 + 1 + 1 + 1 := ⟨_, rfl⟩
    rw [← hP] at KP ⊢
    obtain ⟨S, hS⟩ : ∃ S, S = w.heap.size + 1 + 1 + 1 := ⟨_, rfl⟩
    rw [← hS] at KS ⊢
    obtain ⟨A, hA⟩ : ∃ A, A = w.heap.size + 1 + 1 := ⟨_, rfl⟩
    rw [← hA] at KA ⊢
    obtain ⟨U, hU⟩ : ∃ U, U = w.heap.size + 1 := ⟨_, rfl⟩
    rw [← hU] at KU ⊢
    obtain ⟨K, hK⟩ : ∃ K, K = w.heap.size := ⟨_, rfl⟩
    rw [← hK] at KK ⊢
    have SZ := Lib.hid (show K = w.heap.size ∧ U = w.heap.size + 1 ∧ A = w.heap.size + 1 + 1 ∧ S = w.heap.size + 1 + 1 + 1 ∧ P = w.heap.size + 1 + 1 + 1 + 1 ∧ F = w.heap.size + 1 + 1 + 1 + 1 + 1 ∧ F < w6.heap.size from ⟨hK, hU, hA, hS, hP, hF, KF.out.lt⟩)
    have NEA := Lib.hid (show A ≠ g ∧ A ≠ b ∧ A ≠ gs ∧ A ≠ r by have := SZ.out; have := NEG.out; omega)
    have NES := Lib.hid (show S ≠ g ∧ S ≠ b ∧ S ≠ gs ∧ S ≠ r by have := SZ.out; have := NEG.out; omega)
    have NEP := Lib.hid (show P ≠ g ∧ P ≠ b ∧ P ≠ gs ∧ P ≠ r by have := SZ.out; have := NEG.out; omega)
    have NEF := Lib.hid (show F ≠ g ∧ F ≠ b ∧ F ≠ gs ∧ F ≠ r by have := SZ.out; have := NEG.out; omega)
    have BL := Lib.hid (show B ≤ w.heap.size by have := BB.out; have := NEG.out; omega)
    clear hF hP hS hA hU hK
    have CW := Lib.hid (walk_any HC.out 34 #[.pointer (some ⟨A, 0, none⟩), .pointer (some ⟨P, 0, none⟩), .pointer (some ⟨K, 0, none⟩), .pointer (some ⟨S, 0, none⟩), .pointer (some ⟨F, 0, none⟩)]
      (enters_of Try.func34 (by kernel_rfl) rfl) (w := w6) (B := B) (g := g) (b := b) (gs := gs) (r := r) (N := N) (M := M) (und := und)
      (fun i w' => SV w' B g b gs r N M und pg ∧ w6.heap.size ≤ w'.heap.size ∧ Below w.heap.size w w' ∧ Bk w' K 35 #[.slice ka m kc] ∧ Bk w' U 45 ud0.cs ∧ (∃ (a0 : Nat) (p0 : Pg) (s0 : Nat), Bk w' A 3 #[.int .i64 a0] ∧ Bk w' P 40 p0.cs ∧ Bk w' S 3 #[.int .i64 s0] ∧ (0 < i → a0 = ch.getD (i - 1) 0 ∧ p0 = pg a0 ∧ VacIs p0 a0 m f s0 false)) ∧ Bk w' F 4 #[.bool false] ∧ ∀ q, q < i → ∀ j, j < 6 → ¬ free1 (pg (ch.getD q 0)) (ch.getD q 0) m f j)
      (fun i w' => SV w' B g b gs r N M und pg ∧ Below w.heap.size w w' ∧ Bk w' K 35 #[.slice ka m kc] ∧ Bk w' U 45 ud0.cs ∧ Bk w' A 3 #[.int .i64 (ch.getD i 0 : Nat)] ∧ Bk w' P 40 (pg (ch.getD i 0)).cs ∧ Bk w' F 4 #[.bool true] ∧ (∀ q, q < i → ∀ j, j < 6 → ¬ free1 (pg (ch.getD q 0)) (ch.getD q 0) m f j) ∧ ∃ sl : Nat, Bk w' S 3 #[.int .i64 sl] ∧ VacIs (pg (ch.getD i 0)) (ch.getD i 0) m f sl true)
      HN.out (fun i w' h => h.1)
      (fun i w' w'' h hb => ⟨h.1.kept hb, Nat.le_trans h.2.1 hb.size, below_then h.2.2.1 hb h.2.2.1.size, h.2.2.2.1.kept hb, h.2.2.2.2.1.kept hb, h.2.2.2.2.2.1.elim fun a0 h => h.elim fun p0 h => h.elim fun s0 h => ⟨a0, p0, s0, h.1.kept hb, h.2.1.kept hb, h.2.2.1.kept hb, h.2.2.2⟩, h.2.2.2.2.2.2.1.kept hb, h.2.2.2.2.2.2.2⟩)
      (fun i w' hi h => by
        obtain ⟨h1, h2, h3, h4, h5, ⟨a0, p0, s0, h6, h7, h8, h9⟩, h10, h11⟩ := h
        have hS := SZ.out
        have hpn := (HC.out.page i hi).2.1
        have hl := LN.out
        have hbl := BL.out
        refine (visit_ins (ch.getD i 0) (by omega) (pg (ch.getD i 0)) p0 (.slice ka m kc) m f B A P K S F a0 s0 false w' MM.out (HK.out.below (h3.mono hbl) (Nat.le_refl _)) h6 h7 h4 h8 h10 (by omega) ⟨by omega, by omega, by omega, by omega⟩).mono ?_
        rintro e w'' ⟨sl, fd, rfl, hv, k1, k2, k3, k4, w1, w2, w3, g1, g2, g3, g4⟩
        have far : ∀ q t cs, Bk w' q t cs → q ≠ A → q ≠ P → q ≠ S → q ≠ F → Bk w'' q t cs := fun q t cs hk ha hp hs hf => (((hk.grown g1 (fun e => ha (by injection e))).grown g2 (fun e => hp (by injection e))).grown g3 (fun e => hs (by injection e))).grown g4 (fun e => hf (by injection e))
        have hsz : w'.heap.size ≤ w''.heap.size := Nat.le_trans (Nat.le_trans g1.size g2.size) (Nat.le_trans g3.size g4.size)
        have hsv : SV w'' B g b gs r N M und pg := (h1.far g1 g2 NEA.out NEP.out).far g3 g4 NES.out NEF.out
        have hbb : Below w.heap.size w w'' := bl_grow (bl_grow (bl_grow (bl_grow h3 g1 (fun j hj => by cases hj; omega) h3.size) g2 (fun j hj => by cases hj; omega) (Nat.le_trans h3.size g1.size)) g3 (fun j hj => by cases hj; omega) (Nat.le_trans h3.size (Nat.le_trans g1.size g2.size))) g4 (fun j hj => by cases hj; omega) (Nat.le_trans h3.size (Nat.le_trans (Nat.le_trans g1.size g2.size) g3.size))
        refine ⟨?_, fun q cs hq hk => far q _ cs hk (by omega) (by omega) (by omega) (by omega)⟩
        cases fd with
        | true =>
          right
          exact ⟨rfl, hsv, hbb, far _ _ _ h4 (by omega) (by omega) (by omega) (by omega), far _ _ _ h5 (by omega) (by omega) (by omega) (by omega), k1, k2, k4, h11, sl, k3, hv⟩
        | false =>
          left
          exact ⟨rfl, hsv, Nat.le_trans h2 hsz, hbb, far _ _ _ h4 (by omega) (by omega) (by omega) (by omega), far _ _ _ h5 (by omega) (by omega) (by omega) (by omega), ⟨_, _, sl, k1, k2, k3, fun _ => ⟨rfl, rfl, hv⟩⟩, k4, fun q hq => by
            by_cases e : q = i
            · rw [e]; exact hv.2.2 rfl
            · exact h11 q (by omega)⟩)
      (fun i w' h => h.2.1)
      ⟨V6.out, Nat.le_refl _, B6.out, KK.out, KU.out, ⟨0, _, 0, KA.out, KP.out, KS.out, fun h => absurd h (Nat.lt_irrefl _)⟩, KF.out, fun q hq => absurd hq (Nat.not_lt_zero q)⟩)
    have ST0 := Lib.hid (fun (w' : World) => show (SV w' B g b gs r N M und pg ∧ w6.heap.size ≤ w'.heap.size ∧ Below w.heap.size w w' ∧ Bk w' K 35 #[.slice ka m kc] ∧ Bk w' U 45 ud0.cs ∧ (∃ (a0 : Nat) (p0 : Pg) (s0 : Nat), Bk w' A 3 #[.int .i64 a0] ∧ Bk w' P 40 p0.cs ∧ Bk w' S 3 #[.int .i64 s0] ∧ (0 < ch.length → a0 = ch.getD (ch.length - 1) 0 ∧ p0 = pg a0 ∧ VacIs p0 a0 m f s0 false)) ∧ Bk w' F 4 #[.bool false] ∧ ∀ q, q < ch.length → ∀ j, j < 6 → ¬ free1 (pg (ch.getD q 0)) (ch.getD q 0) m f j) → InsSt X w w' B g b gs r N M n und ch L (.slice ka m kc) m f K U A S P F 0 0 false from fun ⟨h1, h2, h3, h4, h5, ⟨a0, p0, s0, h6, h7, h8, h9⟩, h10, h11⟩ => by
        obtain ⟨e1, e2, e3⟩ := h9 LN.out.1
        exact ⟨a0, p0, s0, pg, ch, M, h1, Nat.le_refl _, HC.out, h6, h7, h8, h10, h4, h5, only_below h3 (some b), (fun hx => by rw [XE.out] at hx; exact absurd hx (h11 0 LN.out.1 0 (by omega))), .inr ⟨rfl, by rw [e1]; exact getD_mem (by have := LN.out; omega), e2, e3, fun _ => ⟨e1, fun hm => ⟨rfl, rfl, AllL.of HC.out hm h11⟩⟩⟩⟩)
    have ST1 := Lib.hid (fun (w' : World) (i : Nat) (hi : i < ch.length) => show (SV w' B g b gs r N M und pg ∧ Below w.heap.size w w' ∧ Bk w' K 35 #[.slice ka m kc] ∧ Bk w' U 45 ud0.cs ∧ Bk w' A 3 #[.int .i64 (ch.getD i 0 : Nat)] ∧ Bk w' P 40 (pg (ch.getD i 0)).cs ∧ Bk w' F 4 #[.bool true] ∧ (∀ q, q < i → ∀ j, j < 6 → ¬ free1 (pg (ch.getD q 0)) (ch.getD q 0) m f j) ∧ ∃ sl : Nat, Bk w' S 3 #[.int .i64 sl] ∧ VacIs (pg (ch.getD i 0)) (ch.getD i 0) m f sl true) → InsSt X w w' B g b gs r N M n und ch L (.slice ka m kc) m f K U A S P F 0 0 true from fun ⟨h1, h2, h3, h4, h5, h6, h7, ha, sl, h8, h9⟩ =>
        ⟨ch.getD i 0, _, sl, pg, ch, M, h1, Nat.le_refl _, HC.out, h5, h6, h8, h7, h3, h4, only_below h2 (some b), (fun hx => by
          rw [XE.out] at hx
          have i0 : i = 0 := by
            by_cases e : i = 0
            · exact e
            · exact absurd hx (ha 0 (by omega) 0 (by omega))
          subst i0
          refine ⟨rfl, rfl, rfl, ?_⟩
          by_cases e : sl = 0
          · exact e
          · exact absurd hx ((h9.1 rfl).2 0 (by omega))), .inr ⟨rfl, getD_mem hi, rfl, h9, fun h => (by cases h)⟩⟩)
    clear KK KU KA KS KP KF V6 B6
    as_aux_lemma =>
      go_wp2_with fail
      refine CW.out.mono ?_
      rintro e w7 ⟨rfl, hpost⟩
      obtain ⟨fd0, hst⟩ : ∃ fd0, InsSt X w w7 B g b gs r N M n und ch L (.slice ka m kc) m f K U A S P F 0 0 fd0 := by
        rcases hpost with hp | ⟨i, hi, hp⟩
        · exact ⟨false, ST0.out w7 hp⟩
        · exact ⟨true, ST1.out w7 i hi hp⟩
      have ST := Lib.hid hst
      clear hst hpost CW ST0 ST1
      as_aux_lemma =>
        go_wp2_with fail
        go_loopw [15, 16] (fun e i wr => ∃ (gr : Nat) (er : Int) (fd : Bool), gr ≤ 5 ∧ e = .int .i64 er ∧ i = .int .i64 gr ∧ InsSt X w wr B g b gs r N M n und ch L (.slice ka m kc) m f K U A S P F gr er fd ∧ (gr = 5 → er = 140 ∨ fd = true)) (fun _ i _ => 6 - (intOf i).toNat)
        case atStart => exact ⟨0, 0, fd0, by omega, rfl, rfl, ST.out, fun h => by omega⟩
        case round =>
          obtain ⟨gr, er, fd, hgr, rfl, rfl, hst, hg5⟩ := hrel
          obtain ⟨ad, pp, sl, pg', ch', M', s1, s2, s3, s4, s5, s6, s7, s8, s9, s10, sX, s11⟩ := hst
          have V := Lib.hid s1; have ML := Lib.hid s2; have HC' := Lib.hid s3; have KA := Lib.hid s4; have KP := Lib.hid s5; have KS := Lib.hid s6; have KF := Lib.hid s7; have KK := Lib.hid s8; have KU := Lib.hid s9; have G1 := Lib.hid s10
          have H5 := Lib.hid hg5; have GR := Lib.hid hgr
          have SX := Lib.hid sX
          clear s1 s2 s3 s4 s5 s6 s7 s8 s9 s10 sX hg5 ST
          have f0 : wr.cell? ⟨F, 0, none⟩ = some (.bool fd) := KF.out.cell 0
          have ERR := Lib.hid (fun (hnx : ¬ X) (h140 : m = 0 → AllL ch L ∧ n ≤ 2 + ch.length) => show InsPost X w B g b gs r N M n und ch L val m f (.returned (.tuple #[.int .i64 0, .agg ud0.cs, .int .i64 140])) (wr.setRow U ud0.cs) from
            .inr (.inl ⟨HV.out, rfl, hnx, h140, M', pg', ch', by have := ML.out; have := GR.out; omega, V.out.grown (row := some U) (only_row wr U _) (fun k hk => by cases hk; have := SZ.out; have := NEG.out; omega), HC'.out, only_setRow G1.out (show w.heap.size ≤ U by have := SZ.out; omega) ud0.cs⟩))
          have KU2 := Lib.hid (ud_bk (p := ud0) KU.out)
          rcases s11 with ⟨rfl, h140⟩ | ⟨rfl, hmem, hpp, hvac, hfd⟩
          · have E1 := Lib.hid (ERR.out (fun hx => by have := (SX.out hx).1; cases this) h140)
            clear h140 ERR
            as_aux_lemma =>
              go_wp2_with (first | (refine build_ud0 rfl rfl ?_) | (refine store_ud rfl _ _ rfl U ud0 ud0 rfl rfl KU.out ?_; generalize wr.setRow U ud0.cs = w2 at *))
              refine bodyPost_ret (ud_tct rfl _ _ U ud0 KU2.out rfl) rfl ?_
              exact E1.out
          cases fd with
          | true =>
            have PM := HC'.out.mem hmem
            have PO := (HC'.out.page _ (mem_getD hmem).choose_spec.1).2.2.2.2.2
            rw [(mem_getD hmem).choose_spec.2, ← hpp] at PO
            have CC := Lib.hid (change_any V.out ad (by have := HN.out; omega) sl hvac.2.1 pp PO ⟨1, val⟩ (.inr ⟨.inl rfl, by have := HV.out; show val.size ≤ 34; omega⟩) (by have := HM.out; have := ML.out; have := GR.out; omega))
            have FR := Lib.hid (show sl < 6 ∧ ad < n ∧ (L ad sl).st ≠ 1 ∧ ¬ onK m f ((ad : Int) * 8 + (sl : Int)) ∧ pp.c sl = L ad sl ∧ ad ∈ ch' from by
              have h1 := (hvac.1 rfl).1
              have h2 : pp.c sl = L ad sl := by rw [hpp]; exact HC'.out.cell hmem hvac.2.1
              exact ⟨hvac.2.1, PM.2, by rw [← h2]; exact h1.1, h1.2, h2, hmem⟩)
            have HL := Lib.hid (show Hc (upd pg' ad (putC pp sl ⟨1, val⟩)) n ch' (putL L ad sl ⟨1, val⟩) by
              have := HC'.out.lay hmem hvac.2.1 ⟨1, val⟩ (.inr ⟨.inl rfl, by have := HV.out; show val.size ≤ 34; omega⟩)
              rw [← hpp] at this
              exact this)
            have a0 : wr.cell? ⟨A, 0, none⟩ = some (.int .i64 ad) := KA.out.cell 0
            have a1 : wr.cell? ⟨S, 0, none⟩ = some (.int .i64 sl) := KS.out.cell 0
            clear PM PO ERR hvac hfd hmem hpp KU2
            as_aux_lemma =>
              go_wp2_with (first | (refine load_page rfl _ rfl P pp rfl KP.out ?_) | (refine build_ce rfl 1 _ rfl val rfl ?_))
              refine CC.out.mono ?_
              rintro e w8 ⟨rfl, hsv, hg⟩
              have V8 := Lib.hid (hsv.alloc (.cells (udC ad sl (pp.c sl)).cs 45))
              have G8 := Lib.hid (only_alloc (only_trans G1.out hg) (.cells (udC ad sl (pp.c sl)).cs 45))
              have KA8 := Lib.hid ((KA.out.grown hg (fun e => NEA.out.2.1 (by injection e))).alloc (.cells (udC ad sl (pp.c sl)).cs 45))
              have KS8 := Lib.hid ((KS.out.grown hg (fun e => NES.out.2.1 (by injection e))).alloc (.cells (udC ad sl (pp.c sl)).cs 45))
              have KU7 := KU.out.grown hg (fun e => by have := SZ.out; have := NEG.out; injection e with e; omega)
              have KU8 := Lib.hid (KU7.alloc (.cells (udC ad sl (pp.c sl)).cs 45))
              have KW := Lib.hid (Bk.new w8 45 (udC ad sl (pp.c sl)).cs)
              obtain ⟨W, hW⟩ : ∃ W, W = w8.heap.size := ⟨_, rfl⟩
              rw [← hW] at KW
              have WZ := Lib.hid (show W ≠ U by have := KU7.lt; omega)
              clear hsv hg CC V G1 KA KS KP KF KK KU KU7 a0 a1 f0
              as_aux_lemma =>
                go_upto_region 19 with (refine store_ud_new rfl _ _ rfl (udC ad sl (pp.c sl)) rfl rfl ?_; rw [← hW]; clear hW; generalize w8.alloc (.cells (udC ad sl (pp.c sl)).cs 45) = w9 at *)
                have AU := Lib.hid (show A ≠ U ∧ S ≠ U by have := SZ.out; omega)
                refine wp_region_held (S := fun w' => Bk w' A 3 #[.int .i64 ad] ∧ Bk w' S 3 #[.int .i64 sl] ∧ Bk w' W 45 (udC ad sl (pp.c sl)).cs) (by kernel_rfl) ?_
                refine held_take (fuel := 6) (i := 0) 71 rfl rfl (by kernel_rfl) (by kernel_rfl) (by kernel_rfl) (fun _ _ _ h => h) (held_int _ rfl (by kernel_rfl) A ad rfl (fun w h => h.1)) ⟨KA8.out.drew, KS8.out.drew, KW.out.drew⟩ ?_
                refine held_take (fuel := 5) (i := 1) 72 rfl rfl (by kernel_rfl) (by kernel_rfl) (by kernel_rfl) (fun _ _ _ h => h) (held_int _ rfl (by kernel_rfl) S sl rfl (fun w h => h.2.1)) ⟨KA8.out.drew, KS8.out.drew, KW.out.drew⟩ ?_
                refine held_take (fuel := 4) (i := 3) 74 rfl rfl (by kernel_rfl) (by kernel_rfl) (by kernel_rfl) (fun _ _ _ h => h) (held_ud _ rfl (by kernel_rfl) W (udC ad sl (pp.c sl)) rfl (fun w h => h.2.2)) ⟨KA8.out.drew, KS8.out.drew, KW.out.drew⟩ ?_
                simp only [Act.put, Act.eval, List.setIfInBounds_toArray, List.set_cons_succ, List.set_cons_zero]
                refine held_ready (fuel := 3) 2 (by kernel_rfl) ?_
                refine held_call rfl (by kernel_rfl) 73 rfl 23 #[.int .i64 ad, .int .i64 sl] (by kernel_rfl) ?_
                refine (id_any ad sl (by have := FR.out; have := LN.out; omega) (by have := FR.out; omega) _).mono ?_
                rintro e wx ⟨rfl, rfl⟩
                refine ⟨_, rfl, ⟨KA8.out.drew, KS8.out.drew, KW.out.drew⟩, ?_⟩
                simp only [Act.put, Act.eval, List.setIfInBounds_toArray, List.set_cons_succ, List.set_cons_zero]
                refine held_take (fuel := 2) (i := 4) 8 rfl rfl (by kernel_rfl) (by kernel_rfl) (by kernel_rfl) (fun _ _ _ h => h) (held_assign _ rfl (by kernel_rfl)) ⟨KA8.out.drew, KS8.out.drew, KW.out.drew⟩ ?_
                simp only [Act.put, Act.eval, List.setIfInBounds_toArray, List.set_cons_succ, List.set_cons_zero]
                refine held_ready (fuel := 1) 5 (by kernel_rfl) ?_
                refine held_store_ud rfl _ _ rfl rfl (by kernel_rfl) U (udC ad sl (pp.c sl)) ud0 rfl rfl KU8.out.drew ⟨⟨row_far KA8.out.drew AU.out.1, row_far KS8.out.drew AU.out.2, row_far KW.out.drew WZ.out⟩, ?_⟩
                refine held_take (fuel := 0) (i := 6) 10 rfl rfl (by kernel_rfl) (by kernel_rfl) (by kernel_rfl) (fun _ _ _ h => h) (held_assign _ rfl (by kernel_rfl)) ⟨row_far KA8.out.drew AU.out.1, row_far KS8.out.drew AU.out.2, row_far KW.out.drew WZ.out⟩ ?_
                refine wpAnyH_done (by kernel_rfl) ?_ _
                simp only [Act.put, Act.eval, List.setIfInBounds_toArray, List.set_cons_succ, List.set_cons_zero]
                have FU := Lib.hid (show Bk (w9.drew.setRow U (udC ad sl (pp.c sl)).cs) U 45 (udC ad sl (pp.c sl)).cs from ud_bk KU8.out.drew)
                have FV := Lib.hid (show SV (w9.drew.setRow U (udC ad sl (pp.c sl)).cs) B g b gs r N (M' + 1) und (upd pg' ad (putC pp sl ⟨1, val⟩)) from V8.out.drew.grown (row := some U) (only_row w9.drew U _) (fun k hk => by cases hk; have := SZ.out; have := NEG.out; omega))
                have FG := Lib.hid (only_setRow (only_drew G8.out) (show w.heap.size ≤ U by have := SZ.out; omega) (udC ad sl (pp.c sl)).cs)
                generalize hWW : World.setRow _ U (udC ad sl (pp.c sl)).cs = wF
                have FU2 := Lib.hid (show Bk wF U 45 (udC ad sl (pp.c sl)).cs by rw [← hWW]; exact FU.out)
                have FV2 := Lib.hid (show SV wF B g b gs r N (M' + 1) und (upd pg' ad (putC pp sl ⟨1, val⟩)) by rw [← hWW]; exact FV.out)
                have FG2 := Lib.hid (show w.grownBy wF (some b) by rw [← hWW]; exact FG.out)
                clear hWW FU FV FG
                go_wp2
                refine bodyPost_ret (ud_tct rfl _ _ U (udC ad sl (pp.c sl)) FU2.out rfl) rfl ?_
                exact .inr (.inr ⟨ad, sl, HV.out, FR.out.1, FR.out.2.1, FR.out.2.2.1, FR.out.2.2.2.1, by rw [FR.out.2.2.2.2.1]; rfl, (fun hx => (SX.out hx).2.2), M' + 1, _, ch', FR.out.2.2.2.2.2, by have := ML.out; have := GR.out; omega, FV2.out, HL.out, FG2.out⟩)
          | false =>
            obtain ⟨had, hm0⟩ := hfd rfl
            have HM0 := Lib.hid hm0
            by_cases h4 : gr = 4
            · have E1 := Lib.hid (ERR.out (fun hx => by have := (SX.out hx).2.1; cases this) (fun hm => by have := (HM0.out hm).1; omega))
              subst h4
              clear ERR hvac hmem hpp hm0 hfd
              as_aux_lemma =>
                go_wp2_with (first | (refine build_ud0 rfl rfl ?_) | (refine store_ud rfl _ _ rfl U ud0 ud0 rfl rfl KU.out ?_; generalize wr.setRow U ud0.cs = w2 at *))
                refine bodyPost_ret (ud_tct rfl _ _ U ud0 KU2.out rfl) rfl ?_
                exact E1.out
            · have g4 : gr < 4 := by
                by_cases h5 : gr = 5
                · rcases H5.out h5 with h6 | h6
                  · cases h6
                  · cases h6
                · omega
              have GR4 := Lib.hid g4
              have gb : (gr : Int) < 4 := by omega
              have g4b : ((gr : Int) == 4) = false := by simp; omega
              have grb : gr < 9223372036854775807 := by omega
              have CG := grow_any V.out HN.out HC'.out (by have := HM.out; have := ML.out; omega)
              rw [← had] at CG
              rw [← hpp] at CG
              have CG := Lib.hid CG
              have a0 : wr.cell? ⟨A, 0, none⟩ = some (.int .i64 ad) := KA.out.cell 0
              clear ERR hvac hmem hpp hm0 hfd h4 had
              as_aux_lemma =>
                go_wp2_with (refine load_page rfl _ rfl P pp rfl KP.out ?_)
                refine CG.out.mono ?_
                rintro e w8 (⟨rfl, hful, hb⟩ | ⟨id, pg2, rfl, hid, hsv, hhc, hnew, hg⟩)
                · have KA8 := Lib.hid (KA.out.kept hb); have KP8 := Lib.hid (KP.out.kept hb); have KS8 := Lib.hid (KS.out.kept hb); have KF8 := Lib.hid (KF.out.kept hb); have KK8 := Lib.hid (KK.out.kept hb); have KU8 := Lib.hid (KU.out.kept hb)
                  have V8 := Lib.hid (V.out.kept hb); have G8 := Lib.hid (only_trans G1.out (only_below hb (some b)))
                  have FU := Lib.hid (show m = 0 → AllL ch L ∧ n ≤ 2 + ch.length from fun hm => by
                    obtain ⟨-, e2, e3⟩ := HM0.out hm
                    rw [e2] at hful
                    exact ⟨e3, hful⟩)
                  clear hful hb CG a0
                  have a0 : w8.cell? ⟨A, 0, none⟩ = some (.int .i64 ad) := KA8.out.cell 0
                  have a1 : w8.frozen? ⟨A, 0, none⟩ = false := KA8.out.fz 0
                  have KA9 := Lib.hid (KA8.out.set 0 (.int .i64 0))
                  have KP9 := Lib.hid (KP8.out.far (p := ⟨A, 0, none⟩) (by show P ≠ A; have := SZ.out; omega) (.int .i64 0))
                  have KS9 := Lib.hid (KS8.out.far (p := ⟨A, 0, none⟩) (by show S ≠ A; have := SZ.out; omega) (.int .i64 0))
                  have KF9 := Lib.hid (KF8.out.far (p := ⟨A, 0, none⟩) (by show F ≠ A; have := SZ.out; omega) (.int .i64 0))
                  have KK9 := Lib.hid (KK8.out.far (p := ⟨A, 0, none⟩) (by show K ≠ A; have := SZ.out; omega) (.int .i64 0))
                  have KU9 := Lib.hid (KU8.out.far (p := ⟨A, 0, none⟩) (by show U ≠ A; have := SZ.out; omega) (.int .i64 0))
                  have V9 := Lib.hid (V8.out.grown (only_set (World.grownBy.but (below_grow0 w8) (some A)) 0 (.int .i64 0)) (fun k hk => by cases hk; exact NEA.out))
                  have G9 := Lib.hid (only_set_new G8.out (p := ⟨A, 0, none⟩) (by show w.heap.size ≤ A; have := SZ.out; omega) (.int .i64 0))
                  clear KA8 KP8 KS8 KF8 KK8 KU8 V8 G8 KA KP KS KF KK KU KU2 V G1 f0
                  as_aux_lemma =>
                    go_upto_region 13 with (refine store_page rfl _ _ rfl P Pg.zero pp rfl rfl KP9.out ?_; obtain ⟨w9, hw9⟩ : ∃ w9, w9 = w8.setCell ⟨A, 0, none⟩ (.int .i64 0) := ⟨_, rfl⟩; rw [← hw9] at KA9 KP9 KS9 KF9 KK9 KU9 V9 G9 ⊢; clear hw9 a0 a1)
                    have KAa := Lib.hid (row_far (cs := (Pg.zero : Pg).cs) KA9.out (show A ≠ P by have := SZ.out; omega))
                    have KPa := Lib.hid (row_bk (p := Pg.zero) KP9.out)
                    have KSa := Lib.hid (row_far (cs := (Pg.zero : Pg).cs) KS9.out (show S ≠ P by have := SZ.out; omega))
                    have KFa := Lib.hid (row_far (cs := (Pg.zero : Pg).cs) KF9.out (show F ≠ P by have := SZ.out; omega))
                    have KKa := Lib.hid (row_far (cs := (Pg.zero : Pg).cs) KK9.out (show K ≠ P by have := SZ.out; omega))
                    have KUa := Lib.hid (row_far (cs := (Pg.zero : Pg).cs) KU9.out (show U ≠ P by have := SZ.out; omega))
                    have Va := Lib.hid (V9.out.grown (only_row w9 P (Pg.zero : Pg).cs) (fun k hk => by cases hk; exact NEP.out))
                    have Ga := Lib.hid (only_setRow G9.out (show w.heap.size ≤ P by have := SZ.out; omega) (Pg.zero : Pg).cs)
                    generalize w9.setRow P (Pg.zero : Pg).cs = wa at *
                    clear KA9 KP9 KS9 KF9 KK9 KU9 V9 G9
                    have BA := Lib.hid (show Below B w wa from bl_grow (Below.refl _ _) Ga.out (fun j hj => by cases hj; exact BB.out) BL.out)
                    have CV := vacant_is Pg.zero 0 (by omega) (.slice ka m kc) m f wa (ks_of MM.out HK.out BA.out (Nat.le_trans BL.out Ga.out.size))
                    rw [show ((0 : Nat) : Int) = 0 from rfl] at CV
                    have CV := Lib.hid CV
                    have a0 : wa.cell? ⟨A, 0, none⟩ = some (.int .i64 0) := KAa.out.cell 0
                    have a1 : wa.cell? ⟨K, 0, none⟩ = some (.slice ka m kc) := KKa.out.cell 0
                    as_aux_lemma =>
                      go_wp2_with (refine load_page rfl _ rfl P Pg.zero rfl KPa.out ?_)
                      refine CV.out.mono ?_
                      rintro e wb ⟨sl2, fd2, rfl, hv2, hb2⟩
                      have KAb := Lib.hid (KAa.out.kept hb2); have KPb := Lib.hid (KPa.out.kept hb2); have KSb := Lib.hid (KSa.out.kept hb2); have KFb := Lib.hid (KFa.out.kept hb2); have KKb := Lib.hid (KKa.out.kept hb2); have KUb := Lib.hid (KUa.out.kept hb2)
                      have Vb := Lib.hid (Va.out.kept hb2); have Gb := Lib.hid (only_trans Ga.out (only_below hb2 (some b)))
                      have HV2 := Lib.hid hv2
                      clear hv2 hb2 CV KAa KPa KSa KFa KKa KUa Va Ga BA a0 a1
                      have c1 : wb.cell? ⟨S, 0, none⟩ = some (.int .i64 sl) := KSb.out.cell 0
                      have c2 : wb.frozen? ⟨S, 0, none⟩ = false := KSb.out.fz 0
                      have d1 : wb.cell? ⟨F, 0, none⟩ = some (.bool false) := KFb.out.cell 0
                      have d2 : wb.frozen? ⟨F, 0, none⟩ = false := KFb.out.fz 0
                      have sf : S ≠ F := by have := SZ.out; omega
                      have fs : F ≠ S := by have := SZ.out; omega
                      have far := Lib.hid (fun q t cs (hk : Bk wb q t cs) (h1 : q ≠ S) (h2 : q ≠ F) => show Bk ((wb.setCell ⟨S, 0, none⟩ (.int .i64 sl2)).setCell ⟨F, 0, none⟩ (.bool fd2)) q t cs from (hk.far (by exact h1) _).far (by exact h2) _)
                      have Sc := Lib.hid (show Bk ((wb.setCell ⟨S, 0, none⟩ (.int .i64 sl2)).setCell ⟨F, 0, none⟩ (.bool fd2)) S 3 #[.int .i64 sl2] from (KSb.out.set 0 _).far (by exact sf) _)
                      have Fc := Lib.hid (show Bk ((wb.setCell ⟨S, 0, none⟩ (.int .i64 sl2)).setCell ⟨F, 0, none⟩ (.bool fd2)) F 4 #[.bool fd2] from (KFb.out.far (by exact fs) _).set 0 _)
                      have Vc := Lib.hid ((Vb.out.grown (only_set (World.grownBy.but (below_grow0 wb) (some S)) 0 (.int .i64 sl2)) (fun k hk => by cases hk; exact NES.out)).grown (only_set (World.grownBy.but (below_grow0 _) (some F)) 0 (.bool fd2)) (fun k hk => by cases hk; exact NEF.out))
                      have Gc := Lib.hid (only_set_new (only_set_new Gb.out (p := ⟨S, 0, none⟩) (by show w.heap.size ≤ S; have := SZ.out; omega) (.int .i64 sl2)) (p := ⟨F, 0, none⟩) (by show w.heap.size ≤ F; have := SZ.out; omega) (.bool fd2))
                      have KAc := Lib.hid (far.out _ _ _ KAb.out (by have := SZ.out; omega) (by have := SZ.out; omega)); have KPc := Lib.hid (far.out _ _ _ KPb.out (by have := SZ.out; omega) (by have := SZ.out; omega)); have KKc := Lib.hid (far.out _ _ _ KKb.out (by have := SZ.out; omega) (by have := SZ.out; omega)); have KUc := Lib.hid (far.out _ _ _ KUb.out (by have := SZ.out; omega) (by have := SZ.out; omega))
                      clear KAb KPb KSb KFb KKb KUb Vb Gb far
                      go_wp2
                      go_roundw
                      case rel => exact ⟨gr + 1, 140, fd2, by have := GR4.out; omega, rfl, by go_num, ⟨0, Pg.zero, sl2, pg', ch', M', Vc.out, by have := ML.out; omega, HC'.out, KAc.out, KPc.out, Sc.out, Fc.out, KKc.out, KUc.out, Gc.out, (fun hx => by have := (SX.out hx).2.1; cases this), .inl ⟨rfl, FU.out⟩⟩, fun _ => .inl rfl⟩
                      case measure => have := GR4.out; simp [intOf]; omega
                · have KA8 := Lib.hid (KA.out.grown hg (fun e => NEA.out.2.1 (by injection e))); have KP8 := Lib.hid (KP.out.grown hg (fun e => NEP.out.2.1 (by injection e))); have KS8 := Lib.hid (KS.out.grown hg (fun e => NES.out.2.1 (by injection e))); have KF8 := Lib.hid (KF.out.grown hg (fun e => NEF.out.2.1 (by injection e)))
                  have KK8 := Lib.hid (KK.out.grown hg (fun e => by have := SZ.out; have := NEG.out; injection e with e; omega)); have KU8 := Lib.hid (KU.out.grown hg (fun e => by have := SZ.out; have := NEG.out; injection e with e; omega))
                  have V8 := Lib.hid hsv; have G8 := Lib.hid (only_trans G1.out hg)
                  have NEW := Lib.hid (show id < n ∧ Hc pg2 n (ch' ++ [id]) L ∧ pgK3 = pg2 id from ⟨hid, hhc, hnew.symm⟩)
                  clear hsv hhc hnew hg CG a0 hid
                  have a0 : w8.cell? ⟨A, 0, none⟩ = some (.int .i64 ad) := KA8.out.cell 0
                  have a1 : w8.frozen? ⟨A, 0, none⟩ = false := KA8.out.fz 0
                  have KA9 := Lib.hid (KA8.out.set 0 (.int .i64 (id : Nat)))
                  have KP9 := Lib.hid (KP8.out.far (p := ⟨A, 0, none⟩) (by show P ≠ A; have := SZ.out; omega) (.int .i64 (id : Nat)))
                  have KS9 := Lib.hid (KS8.out.far (p := ⟨A, 0, none⟩) (by show S ≠ A; have := SZ.out; omega) (.int .i64 (id : Nat)))
                  have KF9 := Lib.hid (KF8.out.far (p := ⟨A, 0, none⟩) (by show F ≠ A; have := SZ.out; omega) (.int .i64 (id : Nat)))
                  have KK9 := Lib.hid (KK8.out.far (p := ⟨A, 0, none⟩) (by show K ≠ A; have := SZ.out; omega) (.int .i64 (id : Nat)))
                  have KU9 := Lib.hid (KU8.out.far (p := ⟨A, 0, none⟩) (by show U ≠ A; have := SZ.out; omega) (.int .i64 (id : Nat)))
                  have V9 := Lib.hid (V8.out.grown (only_set (World.grownBy.but (below_grow0 w8) (some A)) 0 (.int .i64 (id : Nat))) (fun k hk => by cases hk; exact NEA.out))
                  have G9 := Lib.hid (only_set_new G8.out (p := ⟨A, 0, none⟩) (by show w.heap.size ≤ A; have := SZ.out; omega) (.int .i64 (id : Nat)))
                  clear KA8 KP8 KS8 KF8 KK8 KU8 V8 G8 KA KP KS KF KK KU KU2 V G1 f0
                  as_aux_lemma =>
                    go_upto_region 13 with (refine store_page rfl _ _ rfl P pgK3 pp rfl rfl KP9.out ?_; obtain ⟨w9, hw9⟩ : ∃ w9, w9 = w8.setCell ⟨A, 0, none⟩ (.int .i64 (id : Nat)) := ⟨_, rfl⟩; rw [← hw9] at KA9 KP9 KS9 KF9 KK9 KU9 V9 G9 ⊢; clear hw9 a0 a1)
                    have KAa := Lib.hid (row_far (cs := (pgK3 : Pg).cs) KA9.out (show A ≠ P by have := SZ.out; omega))
                    have KPa := Lib.hid (row_bk (p := pgK3) KP9.out)
                    have KSa := Lib.hid (row_far (cs := (pgK3 : Pg).cs) KS9.out (show S ≠ P by have := SZ.out; omega))
                    have KFa := Lib.hid (row_far (cs := (pgK3 : Pg).cs) KF9.out (show F ≠ P by have := SZ.out; omega))
                    have KKa := Lib.hid (row_far (cs := (pgK3 : Pg).cs) KK9.out (show K ≠ P by have := SZ.out; omega))
                    have KUa := Lib.hid (row_far (cs := (pgK3 : Pg).cs) KU9.out (show U ≠ P by have := SZ.out; omega))
                    have Va := Lib.hid (V9.out.grown (only_row w9 P (pgK3 : Pg).cs) (fun k hk => by cases hk; exact NEP.out))
                    have Ga := Lib.hid (only_setRow G9.out (show w.heap.size ≤ P by have := SZ.out; omega) (pgK3 : Pg).cs)
                    generalize w9.setRow P (pgK3 : Pg).cs = wa at *
                    clear KA9 KP9 KS9 KF9 KK9 KU9 V9 G9
                    have BA := Lib.hid (show Below B w wa from bl_grow (Below.refl _ _) Ga.out (fun j hj => by cases hj; exact BB.out) BL.out)
                    have CV := vacant_is pgK3 id (by have := NEW.out.1; have := LN.out; omega) (.slice ka m kc) m f wa (ks_of MM.out HK.out BA.out (Nat.le_trans BL.out Ga.out.size))
                    skip
                    have CV := Lib.hid CV
                    have a0 : wa.cell? ⟨A, 0, none⟩ = some (.int .i64 (id : Nat)) := KAa.out.cell 0
                    have a1 : wa.cell? ⟨K, 0, none⟩ = some (.slice ka m kc) := KKa.out.cell 0
                    as_aux_lemma =>
                      go_wp2_with (refine load_page rfl _ rfl P pgK3 rfl KPa.out ?_)
                      refine CV.out.mono ?_
                      rintro e wb ⟨sl2, fd2, rfl, hv2, hb2⟩
                      have KAb := Lib.hid (KAa.out.kept hb2); have KPb := Lib.hid (KPa.out.kept hb2); have KSb := Lib.hid (KSa.out.kept hb2); have KFb := Lib.hid (KFa.out.kept hb2); have KKb := Lib.hid (KKa.out.kept hb2); have KUb := Lib.hid (KUa.out.kept hb2)
                      have Vb := Lib.hid (Va.out.kept hb2); have Gb := Lib.hid (only_trans Ga.out (only_below hb2 (some b)))
                      have HV2 := Lib.hid hv2
                      clear hv2 hb2 CV KAa KPa KSa KFa KKa KUa Va Ga BA a0 a1
                      have c1 : wb.cell? ⟨S, 0, none⟩ = some (.int .i64 sl) := KSb.out.cell 0
                      have c2 : wb.frozen? ⟨S, 0, none⟩ = false := KSb.out.fz 0
                      have d1 : wb.cell? ⟨F, 0, none⟩ = some (.bool false) := KFb.out.cell 0
                      have d2 : wb.frozen? ⟨F, 0, none⟩ = false := KFb.out.fz 0
                      have sf : S ≠ F := by have := SZ.out; omega
                      have fs : F ≠ S := by have := SZ.out; omega
                      have far := Lib.hid (fun q t cs (hk : Bk wb q t cs) (h1 : q ≠ S) (h2 : q ≠ F) => show Bk ((wb.setCell ⟨S, 0, none⟩ (.int .i64 sl2)).setCell ⟨F, 0, none⟩ (.bool fd2)) q t cs from (hk.far (by exact h1) _).far (by exact h2) _)
                      have Sc := Lib.hid (show Bk ((wb.setCell ⟨S, 0, none⟩ (.int .i64 sl2)).setCell ⟨F, 0, none⟩ (.bool fd2)) S 3 #[.int .i64 sl2] from (KSb.out.set 0 _).far (by exact sf) _)
                      have Fc := Lib.hid (show Bk ((wb.setCell ⟨S, 0, none⟩ (.int .i64 sl2)).setCell ⟨F, 0, none⟩ (.bool fd2)) F 4 #[.bool fd2] from (KFb.out.far (by exact fs) _).set 0 _)
                      have Vc := Lib.hid ((Vb.out.grown (only_set (World.grownBy.but (below_grow0 wb) (some S)) 0 (.int .i64 sl2)) (fun k hk => by cases hk; exact NES.out)).grown (only_set (World.grownBy.but (below_grow0 _) (some F)) 0 (.bool fd2)) (fun k hk => by cases hk; exact NEF.out))
                      have Gc := Lib.hid (only_set_new (only_set_new Gb.out (p := ⟨S, 0, none⟩) (by show w.heap.size ≤ S; have := SZ.out; omega) (.int .i64 sl2)) (p := ⟨F, 0, none⟩) (by show w.heap.size ≤ F; have := SZ.out; omega) (.bool fd2))
                      have KAc := Lib.hid (far.out _ _ _ KAb.out (by have := SZ.out; omega) (by have := SZ.out; omega)); have KPc := Lib.hid (far.out _ _ _ KPb.out (by have := SZ.out; omega) (by have := SZ.out; omega)); have KKc := Lib.hid (far.out _ _ _ KKb.out (by have := SZ.out; omega) (by have := SZ.out; omega)); have KUc := Lib.hid (far.out _ _ _ KUb.out (by have := SZ.out; omega) (by have := SZ.out; omega))
                      clear KAb KPb KSb KFb KKb KUb Vb Gb far
                      go_wp2
                      go_roundw
                      case rel => exact ⟨gr + 1, 0, fd2, by have := GR4.out; omega, rfl, by go_num, ⟨id, pgK3, sl2, pg2, ch' ++ [id], M' + 3, Vc.out, by have := ML.out; omega, NEW.out.2.1, KAc.out, KPc.out, Sc.out, Fc.out, KKc.out, KUc.out, Gc.out, (fun hx => by have := (SX.out hx).2.1; cases this), .inr ⟨rfl, by simp, NEW.out.2.2, HV2.out, fun hfd2 => ⟨(last_app ch' id).symm, fun hm => absurd (by subst hm; exact free_blank id f) (HV2.out.2.2 hfd2 0 (by omega))⟩⟩⟩, fun h => by have := GR4.out; omega⟩
                      case measure => have := GR4.out; simp [intOf]; omega
end Go.Proofs.Ytdhfcjplnbnkdaa
