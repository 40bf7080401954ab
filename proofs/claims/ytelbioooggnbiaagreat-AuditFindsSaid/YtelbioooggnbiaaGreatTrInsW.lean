/- Layer 16: a full node and a cell more as two nodes. Layer 16: the lower half stays, the upper one has a page of its own. Layer 16: the root becomes a node over two new pages. Layer 16: a cell more in a leaf; nodes that are full become two, from there upwards. Layer 16: insert walked. -/
import Derived.Test.YtelbioooggnbiaaGreatTrW5
set_option linter.unusedVariables false
set_option linter.unusedSimpArgs false
namespace Go.Proofs.YtelbioooggnbiaaGreat
open Go.RowKit Go.Maps

def lowH (p : Pg) (c : Ce) : Pg := if slt c.key (sepOf p) = true then putP (lowP p) c else lowP p
def highH (p : Pg) (c : Ce) : Pg := if slt c.key (sepOf p) = true then highP p else putP (highP p) c
theorem hv_all {p : Pg} {c : Ce} (h : nodeOk p) (h6 : cnt p.c = 6) (ht : fThere p c.key = false) (hc : cellFor p c) : ∃ m, Hv p c (lowH p c) (highH p c) m := by
  unfold lowH highH
  by_cases hlt : slt c.key (sepOf p) = true
  · rw [if_pos hlt, if_pos hlt]; exact ⟨4, (hv_lo h h6 ht hc hlt).2⟩
  · rw [if_neg hlt, if_neg hlt]; exact ⟨3, (hv_hi h h6 ht hc (by simpa using hlt)).2⟩
theorem node_sz {p : Pg} (h : nodeOk p) : Sz p.c := fun i hi => by
  unfold maxLen
  rcases node_c_ok h i hi with ⟨h1, h2⟩ | ⟨h1, h2⟩
  · rw [h2]; show (0 : Nat) ≤ _; omega
  · omega
set_option maxRecDepth 100000 in
set_option maxHeartbeats 8000000 in
theorem halves_any (p : Pg) (c : Ce) (w : World) (h : nodeOk p) (h6 : cnt p.c = 6) (ht : fThere p c.key = false) (hc : cellFor p c) (hcd : c.d.size ≤ maxLen) :
    Calls Tryz.prog 87 #[.agg p.cs, .agg #[.int .i64 c.st, .string c.d]] w fun e w' => e = .returned (.tuple #[.agg (lowH p c).cs, .agg (highH p c).cs, .string (sepOf p), .int .i64 0]) ∧ Below w.heap.size w w' := by
  obtain ⟨⟨l1, l2⟩, ⟨g1, g2⟩⟩ := split_node p h (by omega)
  have CS := Lib.hid (fun w' => split_good p w' (node_sz h) (by omega))
  have CK := Lib.hid (fun w' => key_any c w' hcd)
  have CPL := Lib.hid (fun w' => nput_any (lowP p) c w' (node_sz (nodeOk_of l1)) hcd)
  have CPH := Lib.hid (fun w' => nput_any (highP p) c w' (node_sz (nodeOk_of g1)) hcd)
  have EL := Lib.hid (fun (hlt : slt c.key (sepOf p) = true) => (hv_lo h h6 ht hc hlt).1)
  have EH := Lib.hid (fun (hlt : slt c.key (sepOf p) = false) => (hv_hi h h6 ht hc hlt).1)
  have DL := Lib.hid (show lowH p c = if slt c.key (sepOf p) = true then putP (lowP p) c else lowP p from rfl)
  have DH := Lib.hid (show highH p c = if slt c.key (sepOf p) = true then highP p else putP (highP p) c from rfl)
  clear l1 l2 g1 g2 h h6 ht hc
  generalize lowH p c = LO at *
  generalize highH p c = HI at *
  generalize sepOf p = se at *
  generalize putP (lowP p) c = pl at *
  generalize putP (highP p) c = ph at *
  generalize putE (lowP p) c = el at *
  generalize putE (highP p) c = eh at *
  generalize lowP p = lo at *
  generalize highP p = hi at *
  obtain ⟨ck, hck⟩ : ∃ ck, ck = c.key := ⟨_, rfl⟩
  rw [← hck] at CK EL EH DL DH
  clear hck hcd
  generalize c.rst = cr at *
  generalize decide c.says = cs at *
  unfold Pg.v Ce.v at *
  have KP := Lib.hid (((Bk.new w 38 p.cs).alloc (.cells #[.int .i64 c.st, .string c.d] 35)).alloc (.cells Pg.zero.cs 38) |>.alloc (.cells Pg.zero.cs 38))
  have KC := Lib.hid (((Bk.new2 w (.cells p.cs 38) 35 #[.int .i64 c.st, .string c.d]).alloc (.cells Pg.zero.cs 38)).alloc (.cells Pg.zero.cs 38))
  have K4 := Lib.hid ((Bk.new3 w (.cells p.cs 38) (.cells #[.int .i64 c.st, .string c.d] 35) 38 Pg.zero.cs).alloc (.cells Pg.zero.cs 38))
  have K5 := Lib.hid (bk_at (w := ((w.alloc (.cells p.cs 38)).alloc (.cells #[.int .i64 c.st, .string c.d] 35)).alloc (.cells Pg.zero.cs 38)) (k := w.heap.size + 1 + 1 + 1) (by simp) 38 Pg.zero.cs)
  have B1 := Lib.hid (show Below w.heap.size w ((((w.alloc (.cells p.cs 38)).alloc (.cells #[.int .i64 c.st, .string c.d] 35)).alloc (.cells Pg.zero.cs 38)).alloc (.cells Pg.zero.cs 38)) from ((((Below.refl _ _).alloc (Nat.le_refl _) _).alloc (by simp) _).alloc (by simp; omega) _).alloc (by simp; omega) _)
  go_enter Tryz.func87, Tryz.ntmps87
  go_upto_region 1 with fail
  change Code.wp _ _ _ _ ((((w.alloc (.cells p.cs 38)).alloc (.cells #[.int .i64 c.st, .string c.d] 35)).alloc (.cells Pg.zero.cs 38)).alloc (.cells Pg.zero.cs 38))
  obtain ⟨w1, hw1⟩ : ∃ w1, w1 = ((((w.alloc (.cells p.cs 38)).alloc (.cells #[.int .i64 c.st, .string c.d] 35)).alloc (.cells Pg.zero.cs 38)).alloc (.cells Pg.zero.cs 38)) := ⟨_, rfl⟩
  rw [← hw1] at KP KC K4 K5 B1 ⊢
  clear hw1
  obtain ⟨X5, h5⟩ : ∃ X, X = w.heap.size + 1 + 1 + 1 := ⟨_, rfl⟩
  rw [← h5] at K5 ⊢
  obtain ⟨X4, h4⟩ : ∃ X, X = w.heap.size + 1 + 1 := ⟨_, rfl⟩
  rw [← h4] at K4 ⊢
  obtain ⟨XC, h3⟩ : ∃ X, X = w.heap.size + 1 := ⟨_, rfl⟩
  rw [← h3] at KC ⊢
  obtain ⟨XP, h2⟩ : ∃ X, X = w.heap.size := ⟨_, rfl⟩
  rw [← h2] at KP ⊢
  have SZ := Lib.hid (show XP = w.heap.size ∧ XC = w.heap.size + 1 ∧ X4 = w.heap.size + 2 ∧ X5 = w.heap.size + 3 by omega)
  clear h2 h3 h4 h5
  go_wp2_with (refine load_page rfl _ rfl XP p rfl KP.out ?_)
  refine (CS.out _).mono ?_
  rintro e w2 ⟨rfl, hb⟩
  have KC2 := Lib.hid (((KC.out.kept hb).alloc (.cells Pg.zero.cs 38)).alloc (.cells Pg.zero.cs 38))
  have K42 := Lib.hid (((K4.out.kept hb).alloc (.cells Pg.zero.cs 38)).alloc (.cells Pg.zero.cs 38))
  have K52 := Lib.hid (((K5.out.kept hb).alloc (.cells Pg.zero.cs 38)).alloc (.cells Pg.zero.cs 38))
  have K8 := Lib.hid ((Bk.new w2 38 Pg.zero.cs).alloc (.cells Pg.zero.cs 38))
  have K9 := Lib.hid (Bk.new2 w2 (.cells Pg.zero.cs 38) 38 Pg.zero.cs)
  have B2 := Lib.hid (((below_then B1.out hb B1.out.size).alloc (Nat.le_trans B1.out.size hb.size) (.cells Pg.zero.cs 38)).alloc (by have h1 := B1.out.size; have h2 := hb.size; simp; omega) (.cells Pg.zero.cs 38))
  obtain ⟨X8, h8⟩ : ∃ X, X = w2.heap.size := ⟨_, rfl⟩
  obtain ⟨X9, h9⟩ : ∃ X, X = w2.heap.size + 1 := ⟨_, rfl⟩
  have LT := Lib.hid (show X4 < X8 ∧ X5 < X8 ∧ XC < X8 ∧ X9 = X8 + 1 ∧ w.heap.size ≤ X8 by have h1 := (K4.out.kept hb).lt; have h2 := (K5.out.kept hb).lt; have h3 := (KC.out.kept hb).lt; have := SZ.out; omega)
  obtain ⟨w3, hw3⟩ : ∃ w3, w3 = (w2.alloc (.cells Pg.zero.cs 38)).alloc (.cells Pg.zero.cs 38) := ⟨_, rfl⟩
  rw [← h9, ← hw3] at K9
  rw [← h8, ← hw3] at K8
  rw [← hw3] at KC2 K42 K52 B2
  have K8a := Lib.hid (row_bk (p := lo) K8.out)
  have K9a := Lib.hid (row_far (cs := lo.cs) K9.out (show X9 ≠ X8 by have := LT.out; omega))
  have KCa := Lib.hid (row_far (cs := lo.cs) KC2.out (show XC ≠ X8 by have := LT.out; omega))
  have K4a := Lib.hid (row_far (cs := lo.cs) K42.out (show X4 ≠ X8 by have := LT.out; omega))
  have K5a := Lib.hid (row_far (cs := lo.cs) K52.out (show X5 ≠ X8 by have := LT.out; omega))
  have Ba := Lib.hid (below_setRow B2.out (show w.heap.size ≤ X8 by have := LT.out; omega) lo.cs)
  have K8b := Lib.hid (row_far (cs := hi.cs) K8a.out (show X8 ≠ X9 by have := LT.out; omega))
  have K9b := Lib.hid (row_bk (p := hi) K9a.out)
  have KCb := Lib.hid (row_far (cs := hi.cs) KCa.out (show XC ≠ X9 by have := LT.out; omega))
  have K4b := Lib.hid (row_far (cs := hi.cs) K4a.out (show X4 ≠ X9 by have := LT.out; omega))
  have K5b := Lib.hid (row_far (cs := hi.cs) K5a.out (show X5 ≠ X9 by have := LT.out; omega))
  have Bb := Lib.hid (below_setRow Ba.out (show w.heap.size ≤ X9 by have := LT.out; omega) hi.cs)
  clear hb KP KC K4 K5 B1 CS KC2 K42 K52 B2
  as_aux_lemma =>
    go_upto_region 2 with (first | (change wpList _ _ _ _ _ ((w2.alloc (.cells Pg.zero.cs 38)).alloc (.cells Pg.zero.cs 38)); rw [← hw3, ← h9, ← h8]; refine store_page rfl _ _ rfl X8 lo Pg.zero rfl rfl K8.out ?_) | (refine store_page rfl _ _ rfl X9 hi Pg.zero rfl rfl K9a.out ?_))
    rw [← hw3, ← h9, ← h8]
    obtain ⟨w4, hw4⟩ : ∃ w4, w4 = (w3.setRow X8 lo.cs).setRow X9 hi.cs := ⟨_, rfl⟩
    have K8c := Lib.hid (show Bk w4 X8 38 lo.cs from by rw [hw4]; exact K8b.out)
    have K9c := Lib.hid (show Bk w4 X9 38 hi.cs from by rw [hw4]; exact K9b.out)
    have KCc := Lib.hid (show Bk w4 XC 35 #[.int .i64 c.st, .string c.d] from by rw [hw4]; exact KCb.out)
    have K4c := Lib.hid (show Bk w4 X4 38 Pg.zero.cs from by rw [hw4]; exact K4b.out)
    have K5c := Lib.hid (show Bk w4 X5 38 Pg.zero.cs from by rw [hw4]; exact K5b.out)
    have Bc := Lib.hid (show Below w.heap.size w w4 from by rw [hw4]; exact Bb.out)
    rw [← hw4]
    clear hw4 hw3 h8 h9 K8 K9 K8a K9a KCa K4a K5a Ba K8b K9b KCb K4b K5b Bb
    as_aux_lemma =>
      go_wp2_with (refine load_ce rfl _ rfl XC c.st c.d rfl KCc.out ?_)
      refine (CK.out _).mono ?_
      rintro e w4' ⟨rfl, hb⟩
      have K8d := Lib.hid (K8c.out.kept hb); have K9d := Lib.hid (K9c.out.kept hb); have KCd := Lib.hid (KCc.out.kept hb); have K4d := Lib.hid (K4c.out.kept hb); have K5d := Lib.hid (K5c.out.kept hb)
      have Bd := Lib.hid (below_then Bc.out hb Bc.out.size)
      clear hb K8c K9c KCc K4c K5c Bc CK
      have K8c := K8d; have K9c := K9d; have KCc := KCd; have K4c := K4d; have K5c := K5d; have Bc := Bd
      clear K8d K9d KCd K4d K5d Bd
      have DS : slt ck se = Op.bytesLess ck.toList se.toList := rfl
      cases hlt : slt ck se
      · have EQ := Lib.hid (show LO = lo ∧ HI = ph from ⟨by rw [DL.out, hlt]; rfl, by rw [DH.out, hlt]; rfl⟩)
        obtain rfl : eh = 0 := EH.out hlt
        rw [hlt] at DS
        have DB := DS.symm
        clear DL DH EH EL hlt DS
        clear CPL
        as_aux_lemma =>
          go_wp2_with (first | (refine load_page rfl _ rfl X9 hi rfl K9c.out ?_) | (refine load_ce rfl _ rfl XC c.st c.d rfl KCc.out ?_))
          refine (CPH.out _).mono ?_
          rintro e w5 ⟨rfl, hb⟩
          have KX := Lib.hid (K9c.out.kept hb); have KO := Lib.hid (K8c.out.kept hb); have K4d := Lib.hid (K4c.out.kept hb); have K5d := Lib.hid (K5c.out.kept hb)
          have Bd := Lib.hid (below_then Bc.out hb Bc.out.size)
          clear hb K8c K9c KCc K4c K5c Bc CPH
          have S6 := Lib.hid (show Bk (w5.setRow X9 ph.cs).drew X8 38 lo.cs ∧ Bk (w5.setRow X9 ph.cs).drew X9 38 ph.cs from ⟨(row_far KO.out (show X8 ≠ X9 by have := LT.out; omega)).drew, (row_bk KX.out).drew⟩)
          have K46 := Lib.hid (show Bk (w5.setRow X9 ph.cs).drew X4 38 Pg.zero.cs from (row_far K4d.out (show X4 ≠ X9 by have := LT.out; omega)).drew)
          have K56 := Lib.hid (show Bk (w5.setRow X9 ph.cs).drew X5 38 Pg.zero.cs from (row_far K5d.out (show X5 ≠ X9 by have := LT.out; omega)).drew)
          have B6 := Lib.hid (show Below w.heap.size w (w5.setRow X9 ph.cs).drew from (below_setRow Bd.out (show w.heap.size ≤ X9 by have := LT.out; omega) _).drew)
          as_aux_lemma =>
            go_upto_region 10 with (refine store_page rfl _ _ rfl X9 ph hi rfl rfl KX.out ?_; generalize w5.setRow X9 ph.cs = w6 at *)
            clear KX KO K4d K5d Bd
            refine wp_region_held (S := fun w' => Bk w' X8 38 lo.cs ∧ Bk w' X9 38 ph.cs) (by kernel_rfl) ?_
            obtain ⟨wv, hwv⟩ : ∃ wv, wv = w6.drew := ⟨_, rfl⟩
            rw [← hwv] at S6 K46 K56 B6
            show wpAnyH _ _ _ _ _ _ _ _ w6.drew
            rw [← hwv]
            clear hwv
            refine held_take (fuel := 6) (i := 0) 53 rfl rfl (by kernel_rfl) (by kernel_rfl) (by kernel_rfl) (fun _ _ _ h => h) (held_page _ rfl (by kernel_rfl) X8 lo rfl (fun w h => h.1)) S6.out ?_
            refine held_take (fuel := 5) (i := 1) 54 rfl rfl (by kernel_rfl) (by kernel_rfl) (by kernel_rfl) (fun _ _ _ h => h) (held_page _ rfl (by kernel_rfl) X9 ph rfl (fun w h => h.2)) S6.out ?_
            refine held_take (fuel := 4) (i := 2) 55 rfl rfl (by kernel_rfl) (by kernel_rfl) (by kernel_rfl) (fun _ _ _ h => h) (held_move _ rfl (by kernel_rfl)) S6.out ?_
            simp only [Act.put, Act.eval, List.setIfInBounds_toArray, List.set_cons_succ, List.set_cons_zero]
            refine held_ready (fuel := 3) 3 (by kernel_rfl) ?_
            refine held_store rfl _ _ rfl rfl (by kernel_rfl) X4 lo Pg.zero rfl rfl K46.out ⟨⟨row_far S6.out.1 (show X8 ≠ X4 by have := LT.out; omega), row_far S6.out.2 (show X9 ≠ X4 by have := LT.out; omega)⟩, ?_⟩
            refine held_ready (fuel := 2) 4 (by kernel_rfl) ?_
            refine held_store rfl _ _ rfl rfl (by kernel_rfl) X5 ph Pg.zero rfl rfl (row_far K56.out (show X5 ≠ X4 by have := SZ.out; omega)) ⟨⟨row_far (row_far S6.out.1 (show X8 ≠ X4 by have := LT.out; omega)) (show X8 ≠ X5 by have := LT.out; omega), row_far (row_far S6.out.2 (show X9 ≠ X4 by have := LT.out; omega)) (show X9 ≠ X5 by have := LT.out; omega)⟩, ?_⟩
            refine held_take (fuel := 1) (i := 5) 6 rfl rfl (by kernel_rfl) (by kernel_rfl) (by kernel_rfl) (fun _ _ _ h => h) (held_assign _ rfl (by kernel_rfl)) ⟨row_far (row_far S6.out.1 (show X8 ≠ X4 by have := LT.out; omega)) (show X8 ≠ X5 by have := LT.out; omega), row_far (row_far S6.out.2 (show X9 ≠ X4 by have := LT.out; omega)) (show X9 ≠ X5 by have := LT.out; omega)⟩ ?_
            refine held_take (fuel := 0) (i := 6) 7 rfl rfl (by kernel_rfl) (by kernel_rfl) (by kernel_rfl) (fun _ _ _ h => h) (held_assign _ rfl (by kernel_rfl)) ⟨row_far (row_far S6.out.1 (show X8 ≠ X4 by have := LT.out; omega)) (show X8 ≠ X5 by have := LT.out; omega), row_far (row_far S6.out.2 (show X9 ≠ X4 by have := LT.out; omega)) (show X9 ≠ X5 by have := LT.out; omega)⟩ ?_
            refine wpAnyH_done (by kernel_rfl) ?_ _
            simp only [Act.put, Act.eval, List.setIfInBounds_toArray, List.set_cons_succ, List.set_cons_zero]
            have F4 := Lib.hid (show Bk ((wv.setRow X4 lo.cs).setRow X5 ph.cs) X4 38 lo.cs from row_far (row_bk K46.out) (show X4 ≠ X5 by have := SZ.out; omega))
            have F5 := Lib.hid (show Bk ((wv.setRow X4 lo.cs).setRow X5 ph.cs) X5 38 ph.cs from row_bk (row_far K56.out (show X5 ≠ X4 by have := SZ.out; omega)))
            have FB := Lib.hid (show Below w.heap.size w ((wv.setRow X4 lo.cs).setRow X5 ph.cs) from below_setRow (below_setRow B6.out (show w.heap.size ≤ X4 by have := SZ.out; omega) _) (show w.heap.size ≤ X5 by have := SZ.out; omega) _)
            generalize (wv.setRow X4 lo.cs).setRow X5 ph.cs = wF at *
            go_wp2
            refine bodyPost_ret (res4 rfl _ _ X4 X5 lo.cs ph.cs F4.out F5.out rfl rfl rfl rfl) rfl ?_
            exact ⟨by rw [EQ.out.1, EQ.out.2]; rfl, FB.out⟩
      · have EQ := Lib.hid (show LO = pl ∧ HI = hi from ⟨by rw [DL.out, hlt]; rfl, by rw [DH.out, hlt]; rfl⟩)
        obtain rfl : el = 0 := EL.out hlt
        rw [hlt] at DS
        have DB := DS.symm
        clear DL DH EH EL hlt DS
        clear CPH
        as_aux_lemma =>
          go_wp2_with (first | (refine load_page rfl _ rfl X8 lo rfl K8c.out ?_) | (refine load_ce rfl _ rfl XC c.st c.d rfl KCc.out ?_))
          refine (CPL.out _).mono ?_
          rintro e w5 ⟨rfl, hb⟩
          have KX := Lib.hid (K8c.out.kept hb); have KO := Lib.hid (K9c.out.kept hb); have K4d := Lib.hid (K4c.out.kept hb); have K5d := Lib.hid (K5c.out.kept hb)
          have Bd := Lib.hid (below_then Bc.out hb Bc.out.size)
          clear hb K8c K9c KCc K4c K5c Bc CPL
          have S6 := Lib.hid (show Bk (w5.setRow X8 pl.cs).drew X8 38 pl.cs ∧ Bk (w5.setRow X8 pl.cs).drew X9 38 hi.cs from ⟨(row_bk KX.out).drew, (row_far KO.out (show X9 ≠ X8 by have := LT.out; omega)).drew⟩)
          have K46 := Lib.hid (show Bk (w5.setRow X8 pl.cs).drew X4 38 Pg.zero.cs from (row_far K4d.out (show X4 ≠ X8 by have := LT.out; omega)).drew)
          have K56 := Lib.hid (show Bk (w5.setRow X8 pl.cs).drew X5 38 Pg.zero.cs from (row_far K5d.out (show X5 ≠ X8 by have := LT.out; omega)).drew)
          have B6 := Lib.hid (show Below w.heap.size w (w5.setRow X8 pl.cs).drew from (below_setRow Bd.out (show w.heap.size ≤ X8 by have := LT.out; omega) _).drew)
          as_aux_lemma =>
            go_upto_region 10 with (refine store_page rfl _ _ rfl X8 pl lo rfl rfl KX.out ?_; generalize w5.setRow X8 pl.cs = w6 at *)
            clear KX KO K4d K5d Bd
            refine wp_region_held (S := fun w' => Bk w' X8 38 pl.cs ∧ Bk w' X9 38 hi.cs) (by kernel_rfl) ?_
            obtain ⟨wv, hwv⟩ : ∃ wv, wv = w6.drew := ⟨_, rfl⟩
            rw [← hwv] at S6 K46 K56 B6
            show wpAnyH _ _ _ _ _ _ _ _ w6.drew
            rw [← hwv]
            clear hwv
            refine held_take (fuel := 6) (i := 0) 53 rfl rfl (by kernel_rfl) (by kernel_rfl) (by kernel_rfl) (fun _ _ _ h => h) (held_page _ rfl (by kernel_rfl) X8 pl rfl (fun w h => h.1)) S6.out ?_
            refine held_take (fuel := 5) (i := 1) 54 rfl rfl (by kernel_rfl) (by kernel_rfl) (by kernel_rfl) (fun _ _ _ h => h) (held_page _ rfl (by kernel_rfl) X9 hi rfl (fun w h => h.2)) S6.out ?_
            refine held_take (fuel := 4) (i := 2) 55 rfl rfl (by kernel_rfl) (by kernel_rfl) (by kernel_rfl) (fun _ _ _ h => h) (held_move _ rfl (by kernel_rfl)) S6.out ?_
            simp only [Act.put, Act.eval, List.setIfInBounds_toArray, List.set_cons_succ, List.set_cons_zero]
            refine held_ready (fuel := 3) 3 (by kernel_rfl) ?_
            refine held_store rfl _ _ rfl rfl (by kernel_rfl) X4 pl Pg.zero rfl rfl K46.out ⟨⟨row_far S6.out.1 (show X8 ≠ X4 by have := LT.out; omega), row_far S6.out.2 (show X9 ≠ X4 by have := LT.out; omega)⟩, ?_⟩
            refine held_ready (fuel := 2) 4 (by kernel_rfl) ?_
            refine held_store rfl _ _ rfl rfl (by kernel_rfl) X5 hi Pg.zero rfl rfl (row_far K56.out (show X5 ≠ X4 by have := SZ.out; omega)) ⟨⟨row_far (row_far S6.out.1 (show X8 ≠ X4 by have := LT.out; omega)) (show X8 ≠ X5 by have := LT.out; omega), row_far (row_far S6.out.2 (show X9 ≠ X4 by have := LT.out; omega)) (show X9 ≠ X5 by have := LT.out; omega)⟩, ?_⟩
            refine held_take (fuel := 1) (i := 5) 6 rfl rfl (by kernel_rfl) (by kernel_rfl) (by kernel_rfl) (fun _ _ _ h => h) (held_assign _ rfl (by kernel_rfl)) ⟨row_far (row_far S6.out.1 (show X8 ≠ X4 by have := LT.out; omega)) (show X8 ≠ X5 by have := LT.out; omega), row_far (row_far S6.out.2 (show X9 ≠ X4 by have := LT.out; omega)) (show X9 ≠ X5 by have := LT.out; omega)⟩ ?_
            refine held_take (fuel := 0) (i := 6) 7 rfl rfl (by kernel_rfl) (by kernel_rfl) (by kernel_rfl) (fun _ _ _ h => h) (held_assign _ rfl (by kernel_rfl)) ⟨row_far (row_far S6.out.1 (show X8 ≠ X4 by have := LT.out; omega)) (show X8 ≠ X5 by have := LT.out; omega), row_far (row_far S6.out.2 (show X9 ≠ X4 by have := LT.out; omega)) (show X9 ≠ X5 by have := LT.out; omega)⟩ ?_
            refine wpAnyH_done (by kernel_rfl) ?_ _
            simp only [Act.put, Act.eval, List.setIfInBounds_toArray, List.set_cons_succ, List.set_cons_zero]
            have F4 := Lib.hid (show Bk ((wv.setRow X4 pl.cs).setRow X5 hi.cs) X4 38 pl.cs from row_far (row_bk K46.out) (show X4 ≠ X5 by have := SZ.out; omega))
            have F5 := Lib.hid (show Bk ((wv.setRow X4 pl.cs).setRow X5 hi.cs) X5 38 hi.cs from row_bk (row_far K56.out (show X5 ≠ X4 by have := SZ.out; omega)))
            have FB := Lib.hid (show Below w.heap.size w ((wv.setRow X4 pl.cs).setRow X5 hi.cs) from below_setRow (below_setRow B6.out (show w.heap.size ≤ X4 by have := SZ.out; omega) _) (show w.heap.size ≤ X5 by have := SZ.out; omega) _)
            generalize (wv.setRow X4 pl.cs).setRow X5 hi.cs = wF at *
            go_wp2
            refine bodyPost_ret (res4 rfl _ _ X4 X5 pl.cs hi.cs F4.out F5.out rfl rfl rfl rfl) rfl ?_
            exact ⟨by rw [EQ.out.1, EQ.out.2]; rfl, FB.out⟩
end Go.Proofs.YtelbioooggnbiaaGreat
namespace Go.Proofs.YtelbioooggnbiaaGreat
open Go.RowKit Go.Maps

/-- A page taken: which, and what the pages are behind it. -/
theorem take_any2 {w : World} {B g b gs r N M n : Nat} {und pg : Nat → Pg} {st : Nat → Int} {kd rt : Nat → Nat} {ow : Nat → Option Int} (h : SV w B g b gs r N M und pg) (hn : n ≤ N) (hv : Vol pg n st kd rt ow) (hM : M < maxLen) :
    Calls Tryz.prog 14 #[.pointer (some ⟨g, 0, none⟩)] w fun e w' =>
      ((∀ i, i < n → (ow i).isSome = true) ∧ e = .returned (.tuple #[.int .i64 0, .int .i64 140]) ∧ Below w.heap.size w w') ∨
      (∃ (id : Nat) (x : Int) (pg' : Nat → Pg), 2 ≤ id ∧ id < n ∧ ow id = none ∧ e = .returned (.tuple #[.int .i64 id, .int .i64 0]) ∧ SV w' B g b gs r N (M + 1) und pg' ∧ Vol pg' n st kd rt (put ow id (some x)) ∧ (∀ i, i ≠ 1 → pg' i = pg i) ∧ w.grownBy w' (some b)) := by
  have hl := hv.lo
  refine (take_good h (by omega) hv.m hM).mono ?_
  rintro e w' (⟨h1, h2, h3⟩ | ⟨id, h1, h2, h3, h4, h5, h6⟩)
  · exact .inl ⟨fun i hi => by rw [← hv.own i hi]; exact h1 i hi, h2, h3⟩
  · rw [hv.own id h1] at h2
    have hn : ow id = none := by cases ho : ow id with | none => rfl | some x => rw [ho] at h2; cases h2
    have h22 : 2 ≤ id := by
      by_cases e0 : id = 0
      · subst e0; rw [hv.z.1] at hn; cases hn
      · by_cases e1 : id = 1
        · subst e1; rw [hv.z.2] at hn; cases hn
        · omega
    exact .inr ⟨id, _, _, h22, h1, hn, h4, h5, hv.take id h22 h1, fun i hi => upd_ne _ _ hi, h6⟩
def BesP (w : World) (B g b gs r N M n : Nat) (und pg : Nat → Pg) (st : Nat → Int) (kd rt : Nat → Nat) (ow : Nat → Option Int) (at_ : Nat) (low high : Pg) (e : Ending) (w' : World) : Prop :=
  ((∀ i, i < n → (ow i).isSome = true) ∧ e = .returned (.tuple #[.int .i64 0, .int .i64 140]) ∧ Below w.heap.size w w') ∨
  (∃ (id : Nat) (x : Int) (pg2 : Nat → Pg), 2 ≤ id ∧ id < n ∧ ow id = none ∧ e = .returned (.tuple #[.int .i64 id, .int .i64 0]) ∧ SV w' B g b gs r N (M + 3) und (upd (upd pg2 at_ (lnk low id)) id high) ∧ Vol pg2 n st kd rt (put ow id (some x)) ∧ (∀ i, i ≠ 1 → pg2 i = pg i) ∧ w.grownBy w' (some b))
theorem lnk_row (p : Pg) (id : Nat) (h : p.l = 0) : p.cs.setIfInBounds 3 (.int .i64 (id : Int)) = (lnk p id).cs := by unfold lnk; rw [if_pos h]; rfl
set_option maxRecDepth 100000 in
set_option maxHeartbeats 8000000 in
theorem beside_any {w : World} {B g b gs r N M n : Nat} {und pg : Nat → Pg} {st : Nat → Int} {kd rt : Nat → Nat} {ow : Nat → Option Int} (h : SV w B g b gs r N M und pg) (hn : n ≤ N) (hv : Vol pg n st kd rt ow) (hM : M + 2 < maxLen) (at_ : Nat) (hat : at_ < N) (low high : Pg) (h1 : ∀ id : Nat, id < n → (lnk low id).ok) (h2 : high.ok) :
    Calls Tryz.prog 89 #[.pointer (some ⟨g, 0, none⟩), .int .i64 at_, .agg low.cs, .agg high.cs] w (BesP w B g b gs r N M n und pg st kd rt ow at_ low high) := by
  have NEG := Lib.hid h.gs_ne
  have HN := Lib.hid hn; have HM := Lib.hid hM; have H1 := Lib.hid h1; have H2 := Lib.hid h2; have HA := Lib.hid hat
  have KL := Lib.hid ((Bk.new w 38 low.cs).alloc (.cells high.cs 38))
  have KH := Lib.hid (Bk.new2 w (.cells low.cs 38) 38 high.cs)
  have V1 := Lib.hid ((h.alloc (.cells low.cs 38)).alloc (.cells high.cs 38))
  have G1 := Lib.hid (only_alloc (World.grownBy_alloc w (.cells low.cs 38) none) (.cells high.cs 38))
  have CT := Lib.hid (fun (w' : World) (hs : SV w' B g b gs r N M und pg) => take_any2 hs hn hv (by omega))
  clear h hn hv hM h1 h2 hat
  go_enter Tryz.func89, Tryz.ntmps89
  go_upto_region 1 with fail
  change Code.wp _ _ _ _ ((w.alloc (.cells low.cs 38)).alloc (.cells high.cs 38))
  obtain ⟨w1, hw1⟩ : ∃ w1, w1 = ((w.alloc (.cells low.cs 38)).alloc (.cells high.cs 38)) := ⟨_, rfl⟩
  rw [← hw1] at KL KH V1 G1 ⊢
  obtain ⟨Y, hY⟩ : ∃ Y, Y = w.heap.size + 1 := ⟨_, rfl⟩
  rw [← hY] at KH ⊢
  obtain ⟨X, hX⟩ : ∃ X, X = w.heap.size := ⟨_, rfl⟩
  rw [← hX] at KL ⊢
  have SZ := Lib.hid (show X = w.heap.size ∧ Y = w.heap.size + 1 from ⟨hX, hY⟩)
  clear hw1 hX hY
  go_wp2_with fail
  refine (CT.out w1 V1.out).mono ?_
  rintro e w2 (⟨hful, rfl, hb⟩ | ⟨id, x, pg2, i2, i3, ho, rfl, hs, hv2, hp2, hg⟩)
  · have FU := Lib.hid hful
    have B2 := Lib.hid (below_only (only_trans G1.out (only_below hb none)))
    clear hful hb CT V1 KL KH G1
    as_aux_lemma =>
      go_wp2
      refine bodyPost_ret (v := .tuple #[.int .i64 0, .int .i64 140]) (by simp [results, Tryz.results89, go_sem]) rfl ?_
      exact .inl ⟨FU.out, rfl, B2.out⟩
  · have V2 := Lib.hid hs
    have I := Lib.hid (show 2 ≤ id ∧ id < n ∧ ow id = none from ⟨i2, i3, ho⟩)
    have VO := Lib.hid hv2; have PP := Lib.hid hp2
    have KL2 := Lib.hid (KL.out.grown hg (fun e => by have := SZ.out; have := NEG.out; injection e with e; omega))
    have KH2 := Lib.hid (KH.out.grown hg (fun e => by have := SZ.out; have := NEG.out; injection e with e; omega))
    have G2 := Lib.hid (only_trans (World.grownBy.but G1.out (some b)) hg)
    clear i2 i3 ho hs hv2 hp2 hg CT V1 KL KH G1
    have x1 : w2.cell? ⟨X, 1, none⟩ = some (.int .i64 low.l) := KL2.out.cell 1
    have key : ∀ w3 : World, Bk w3 X 38 (lnk low id).cs → Bk w3 Y 38 high.cs → SV w3 B g b gs r N (M + 1) und pg2 → w.grownBy w3 (some b) → True := fun _ _ _ _ _ => trivial
    clear key
    by_cases hl : low.l = 0
    · have hlb : (low.l == 0) = true := by simp [hl]
      have x3 : w2.cell? ⟨X, 3, none⟩ = some (.int .i64 low.n) := KL2.out.cell 3
      have f3 : w2.frozen? ⟨X, 3, none⟩ = false := KL2.out.fz 3
      have KL3 := Lib.hid (show Bk (w2.setCell ⟨X, 3, none⟩ (.int .i64 (id : Int))) X 38 (lnk low id).cs from by have := KL2.out.set 3 (.int .i64 (id : Int)); rw [lnk_row low id hl] at this; exact this)
      have KH3 := Lib.hid (KH2.out.far (p := ⟨X, 3, none⟩) (by show Y ≠ X; have := SZ.out; omega) (.int .i64 (id : Int)))
      have V3 := Lib.hid (V2.out.grown (only_set (World.grownBy.but (below_grow0 w2) (some X)) 3 (.int .i64 (id : Int))) (fun k hk => by cases hk; have := SZ.out; have := NEG.out; omega))
      have G3 := Lib.hid (only_set_new G2.out (p := ⟨X, 3, none⟩) (by show w.heap.size ≤ X; have := SZ.out; omega) (.int .i64 (id : Int)))
      as_aux_lemma =>
        go_upto_region 6 with fail
        generalize w2.setCell ⟨X, 3, none⟩ (.int .i64 (id : Int)) = w3 at *
        clear KL2 KH2 V2 G2 x1 x3 f3 hl hlb
        have CS := Lib.hid (sv_set V3.out at_ HA.out (lnk low id) (H1.out id I.out.2.1) (by have := HM.out; omega))
        go_wp2_with (refine load_page rfl _ rfl X (lnk low id) rfl KL3.out ?_)
        refine CS.out.mono ?_
        rintro e w4 ⟨rfl, hsv, hg⟩
        have CS2 := Lib.hid (sv_set hsv id (by have := I.out; have := HN.out; omega) high H2.out (by have := HM.out; omega))
        have KH4 := Lib.hid (KH3.out.grown hg (fun e => by have := SZ.out; have := NEG.out; injection e with e; omega))
        have G4 := Lib.hid (only_trans G3.out hg)
        clear hsv hg CS KL3 KH3 V3 G3
        as_aux_lemma =>
          go_wp2_with (refine load_page rfl _ rfl Y high rfl KH4.out ?_)
          refine CS2.out.mono ?_
          rintro e w5 ⟨rfl, hsv, hg⟩
          have RES := Lib.hid (show BesP w B g b gs r N M n und pg st kd rt ow at_ low high (.returned (.tuple #[.int .i64 id, .int .i64 0])) w5 from .inr ⟨id, x, pg2, I.out.1, I.out.2.1, I.out.2.2, rfl, hsv, VO.out, PP.out, only_trans G4.out hg⟩)
          clear hsv hg CS2 KH4 G4
          go_wp2
          refine bodyPost_ret (v := .tuple #[.int .i64 id, .int .i64 0]) (by simp [results, Tryz.results89, go_sem]) rfl ?_
          exact RES.out
    · have hlb : (low.l == 0) = false := by simp [hl]
      have EL : lnk low id = low := by unfold lnk; rw [if_neg hl]
      have CS := Lib.hid (sv_set V2.out at_ HA.out (lnk low id) (H1.out id I.out.2.1) (by have := HM.out; omega))
      rw [EL] at CS
      have ELH := Lib.hid EL
      clear EL
      as_aux_lemma =>
        go_wp2_with (refine load_page rfl _ rfl X low rfl KL2.out ?_)
        refine CS.out.mono ?_
        rintro e w4 ⟨rfl, hsv, hg⟩
        have CS2 := Lib.hid (sv_set hsv id (by have := I.out; have := HN.out; omega) high H2.out (by have := HM.out; omega))
        have KH4 := Lib.hid (KH2.out.grown hg (fun e => by have := SZ.out; have := NEG.out; injection e with e; omega))
        have G4 := Lib.hid (only_trans G2.out hg)
        clear hsv hg CS KL2 KH2 V2 G2 x1 hl hlb
        as_aux_lemma =>
          go_wp2_with (refine load_page rfl _ rfl Y high rfl KH4.out ?_)
          refine CS2.out.mono ?_
          rintro e w5 ⟨rfl, hsv, hg⟩
          rw [← ELH.out] at hsv
          have RES := Lib.hid (show BesP w B g b gs r N M n und pg st kd rt ow at_ low high (.returned (.tuple #[.int .i64 id, .int .i64 0])) w5 from .inr ⟨id, x, pg2, I.out.1, I.out.2.1, I.out.2.2, rfl, by rw [ELH.out] at hsv ⊢; exact hsv, VO.out, PP.out, only_trans G4.out hg⟩)
          clear hsv hg CS2 KH4 G4 ELH
          go_wp2
          refine bodyPost_ret (v := .tuple #[.int .i64 id, .int .i64 0]) (by simp [results, Tryz.results89, go_sem]) rfl ?_
          exact RES.out
end Go.Proofs.YtelbioooggnbiaaGreat
namespace Go.Proofs.YtelbioooggnbiaaGreat
open Go.RowKit Go.Maps

def rootB (l s : Int) : Pg := ⟨4, l, s, 0, fun _ => czero⟩
theorem rootB_put (p : Pg) (c1 c2 : Ce) : putC (putC (rootB (p.l + 1) p.s) 0 c1) 1 c2 = rootP p c1 c2 := by
  unfold putC rootB rootP
  congr 1
  funext i
  dsimp only
  by_cases e : i = 0
  · subst e; rfl
  · by_cases e1 : i = 1
    · subst e1; rfl
    · rw [if_neg e1, if_neg e, if_neg e, if_neg e1]
theorem build_rootB {ops : Array Oper} {rest : List Oper} {o : Oper} {a : Act} {w : World} {Q : Exit → Act → World → Prop} (hg : o.guard = none) (x y : Operand) (ho : o.op = .build 38 #[(0, .const (.int .i64 4)), (1, x), (2, y)]) (l s : Int) (hx : a.eval x = .int .i64 l) (hy : a.eval y = .int .i64 s) (h : wpList Tryz.prog ops Q rest (a.put o.dst (.agg (rootB l s).cs)) w) : wpList Tryz.prog ops Q (o :: rest) a w := by
  refine wpList_plain hg fun K' hK' => ?_
  have hb : (Instr.build 38 #[(0, .int .i64 4), (1, .int .i64 l), (2, .int .i64 s)]).run Tryz.prog w = .ok (.agg (rootB l s).cs) w := by kernel_rfl
  unfold Oper.wp execOp
  have hc : a.eval (.const (.int .i64 4)) = .int .i64 4 := rfl
  simp only [ho, Sem.run_bind, Sem.run_pure, Result.andThen_ok, List.map_toArray, List.map_cons, List.map_nil, hc, hx, hy, hb]
  exact hK' _ _ h
/-- A cell of an inner node. -/
def inC (k : ByteArray) (id : Nat) : Ce := ⟨1, dat k (Oct.str id 4)⟩
theorem inC_facts (k : ByteArray) (id : Nat) (hk : k.size ≤ 8) (h1 : 1 ≤ id) (h2 : id < 1024) : (inC k id).says ∧ (inC k id).key = k ∧ (inC k id).child = id ∧ (inC k id).d.size ≤ 34 ∧ (∀ q, (k.size = 0 ↔ q = 0) → innerCellOk (inC k id) q) := by
  obtain ⟨a, b, c, d⟩ := inner_says k (id : Int) ⟨hk, by omega, by omega⟩
  rw [Int.toNat_natCast] at a b c d
  have hc : (inC k id).child = id := by
    have : ((Ce.child ⟨1, dat k (Oct.str id 4)⟩ : Nat) : Int) = id := c
    exact Int.ofNat_inj.1 this
  refine ⟨a, b, hc, ?_, fun q hq => ⟨rfl, by rw [hc]; omega, by rw [show (inC k id).key = k from b]; exact hq⟩⟩
  show (dat k (Oct.str id 4)).size ≤ 34
  rw [dat_size, Oct.str_size]; omega
theorem inner_any2 (k : ByteArray) (id : Nat) (w : World) (hk : k.size ≤ 8) (h1 : 1 ≤ id) (h2 : id < 1024) :
    Calls Tryz.prog 90 #[.string k, .int .i64 id] w fun e w' => e = .returned (.tuple #[.agg #[.int .i64 (inC k id).st, .string (inC k id).d], .int .i64 0]) ∧ Below w.heap.size w w' := by
  have := inner_any k (id : Int) w (by unfold maxLen; omega)
  have ho : innerOk k (id : Int) := ⟨hk, by omega, by omega⟩
  unfold innerC innerE Ce.v at this
  rw [if_pos ho, if_pos ho, Int.toNat_natCast] at this
  exact this
def DeepP (w : World) (B g b gs r N M n : Nat) (und pg : Nat → Pg) (st : Nat → Int) (kd rt : Nat → Nat) (ow : Nat → Option Int) (m : Im) (id : Nat) (low high : Pg) (se : ByteArray) (e : Ending) (w' : World) : Prop :=
  w.grownBy w' (some b) ∧
  ((e = .returned (.int .i64 140) ∧ (∃ y : Nat, ∀ i, i < n → (ow i).isSome = true ∨ i = y) ∧ ∃ pgx, SV w' B g b gs r N (M + 6) und pgx) ∨
  (∃ (le ri : Nat) (x y : Int) (pg3 : Nat → Pg), le ≠ ri ∧ (2 ≤ le ∧ le < n ∧ ow le = none) ∧ (2 ≤ ri ∧ ri < n ∧ ow ri = none) ∧ e = .returned (.int .i64 0) ∧ SV w' B g b gs r N (M + 6) und (upd (upd (upd pg3 le (lnk low ri)) ri high) id (rootP m.p (inC ⟨#[]⟩ le) (inC se ri))) ∧ Vol pg3 n st kd rt (put (put ow le (some x)) ri (some y)) ∧ (∀ i, i ≠ 1 → pg3 i = pg i)))
set_option maxRecDepth 100000 in
set_option maxHeartbeats 8000000 in
theorem deepen_any {w : World} {B g b gs r N M n : Nat} {und pg : Nat → Pg} {st : Nat → Int} {kd rt : Nat → Nat} {ow : Nat → Option Int} (h : SV w B g b gs r N M und pg) (hn : n ≤ N) (hv : Vol pg n st kd rt ow) (hM : M + 6 < maxLen) (m : Im) (id : Nat) (hid : id < N) (hm : m.id = (id : Nat)) (low high : Pg) (h1 : ∀ q : Nat, q < n → (lnk low q).ok) (h2 : high.ok) (se : ByteArray) (hse : se.size ≤ 8) (hl : 0 ≤ m.p.l ∧ m.p.l ≤ 254) (hok : ∀ le ri : Nat, 2 ≤ le → le < n → 2 ≤ ri → ri < n → (rootP m.p (inC ⟨#[]⟩ le) (inC se ri)).ok) :
    Calls Tryz.prog 88 #[.pointer (some ⟨g, 0, none⟩), .agg m.cs, .agg low.cs, .agg high.cs, .string se] w (DeepP w B g b gs r N M n und pg st kd rt ow m id low high se) := by
  have NEG := Lib.hid h.gs_ne
  have HN := Lib.hid hn; have HM := Lib.hid hM; have H1 := Lib.hid h1; have H2 := Lib.hid h2; have HOK := Lib.hid hok; have MI := Lib.hid hm
  have N1024 := Lib.hid hv.lo.2
  have KM := Lib.hid (((Bk.new w 122 m.cs).alloc (.cells low.cs 38)).alloc (.cells high.cs 38))
  have KL := Lib.hid ((Bk.new2 w (.cells m.cs 122) 38 low.cs).alloc (.cells high.cs 38))
  have KH := Lib.hid (Bk.new3 w (.cells m.cs 122) (.cells low.cs 38) 38 high.cs)
  have V1 := Lib.hid (((h.alloc (.cells m.cs 122)).alloc (.cells low.cs 38)).alloc (.cells high.cs 38))
  have G1 := Lib.hid (only_alloc (only_alloc (World.grownBy_alloc w (.cells m.cs 122) (some b)) (.cells low.cs 38)) (.cells high.cs 38))
  have CT := Lib.hid (fun (w' : World) (hs : SV w' B g b gs r N M und pg) => take_any2 hs hn hv (by omega))
  have CB := Lib.hid (fun (w' : World) (pg2 : Nat → Pg) (ow2 : Nat → Option Int) (hs : SV w' B g b gs r N (M + 1) und pg2) (hv2 : Vol pg2 n st kd rt ow2) (le : Nat) (hle : le < N) => beside_any hs hn hv2 (by omega) le hle low high h1 h2)
  have CI1 := Lib.hid (fun w' (q : Nat) (h1 : 1 ≤ q) (h2 : q < 1024) => inner_any2 ⟨#[]⟩ q w' (by decide) h1 h2)
  have CI2 := Lib.hid (fun w' (q : Nat) (h1 : 1 ≤ q) (h2 : q < 1024) => inner_any2 se q w' hse h1 h2)
  have CST := Lib.hid (fun (w' : World) (pg2 : Nat → Pg) (p : Pg) (hp : p.ok) (hs : SV w' B g b gs r N (M + 4) und pg2) => sv_set hs id hid p hp (by omega))
  have wl : wrap64 (m.p.l + 1) = m.p.l + 1 := by unfold wrap64; omega
  have wl2 : IntKind.i64.wrap (m.p.l + 1) = m.p.l + 1 := by simp [IntKind.wrap, IntKind.bits, IntKind.signed]; omega
  clear h hn hv hM h1 h2 hid hm hok hl hse
  go_enter Tryz.func88, Tryz.ntmps88
  go_upto_region 1 with fail
  change Code.wp _ _ _ _ (((w.alloc (.cells m.cs 122)).alloc (.cells low.cs 38)).alloc (.cells high.cs 38))
  obtain ⟨w1, hw1⟩ : ∃ w1, w1 = (((w.alloc (.cells m.cs 122)).alloc (.cells low.cs 38)).alloc (.cells high.cs 38)) := ⟨_, rfl⟩
  rw [← hw1] at KM KL KH V1 G1 ⊢
  obtain ⟨Z, hZ⟩ : ∃ Z, Z = w.heap.size + 1 + 1 := ⟨_, rfl⟩
  rw [← hZ] at KH ⊢
  obtain ⟨Y, hY⟩ : ∃ Y, Y = w.heap.size + 1 := ⟨_, rfl⟩
  rw [← hY] at KL ⊢
  obtain ⟨X, hX⟩ : ∃ X, X = w.heap.size := ⟨_, rfl⟩
  rw [← hX] at KM ⊢
  have SZ := Lib.hid (show X = w.heap.size ∧ Y = w.heap.size + 1 ∧ Z = w.heap.size + 2 by omega)
  clear hw1 hX hY hZ
  go_wp2_with fail
  refine (CT.out w1 V1.out).mono ?_
  rintro e w2 (⟨hful, rfl, hb⟩ | ⟨le, x, pg2, i2, i3, ho, rfl, hs, hv2, hp2, hg⟩)
  · have RES := Lib.hid (show DeepP w B g b gs r N M n und pg st kd rt ow m id low high se (.returned (.int .i64 140)) w2 from ⟨only_trans G1.out (only_below hb (some b)), .inl ⟨rfl, ⟨0, fun i hi => .inl (hful i hi)⟩, pg, (V1.out.kept hb).mono (by omega)⟩⟩)
    clear hful hb CT CB V1 KM KL KH G1
    as_aux_lemma =>
      go_wp2
      go_ret
      exact RES.out
  · have I := Lib.hid (show 2 ≤ le ∧ le < n ∧ ow le = none from ⟨i2, i3, ho⟩)
    have PP := Lib.hid hp2
    have CB2 := Lib.hid (CB.out w2 pg2 _ hs hv2 le (by have := HN.out; omega))
    have KM2 := Lib.hid (KM.out.grown hg (fun e => by have := SZ.out; have := NEG.out; injection e with e; omega))
    have KL2 := Lib.hid (KL.out.grown hg (fun e => by have := SZ.out; have := NEG.out; injection e with e; omega))
    have KH2 := Lib.hid (KH.out.grown hg (fun e => by have := SZ.out; have := NEG.out; injection e with e; omega))
    have V2 := Lib.hid hs
    have G2 := Lib.hid (only_trans G1.out hg)
    clear i2 i3 ho hs hv2 hp2 hg CT CB V1 KM KL KH G1
    as_aux_lemma =>
      go_wp2_with (first | (refine load_page rfl _ rfl Y low rfl KL2.out ?_) | (refine load_page rfl _ rfl Z high rfl KH2.out ?_))
      refine CB2.out.mono ?_
      rintro e w3 (⟨hful, rfl, hb⟩ | ⟨ri, y, pg3, j2, j3, jo, rfl, hs, hv3, hp3, hg⟩)
      · have RES := Lib.hid (show DeepP w B g b gs r N M n und pg st kd rt ow m id low high se (.returned (.int .i64 140)) w3 from ⟨only_trans G2.out (only_below hb (some b)), .inl ⟨rfl, ⟨le, fun i hi => by
          have := hful i hi
          unfold put at this
          by_cases e : i = le
          · exact .inr e
          · rw [if_neg e] at this; exact .inl this⟩, pg2, (V2.out.kept hb).mono (by omega)⟩⟩)
        clear hful hb CB2 V2 KM2 KL2 KH2 G2
        as_aux_lemma =>
          go_wp2
          go_ret
          exact RES.out
      · have J := Lib.hid (show (2 ≤ ri ∧ ri < n ∧ ow ri = none) ∧ le ≠ ri from by
          have hne : ri ≠ le := fun e => by rw [e, put_at] at jo; cases jo
          rw [put_ne _ _ hne] at jo
          exact ⟨⟨j2, j3, jo⟩, Ne.symm hne⟩)
        have V3 := Lib.hid hs; have VO := Lib.hid hv3
        have PP3 := Lib.hid (fun i (hi : i ≠ 1) => (hp3 i hi).trans (PP.out i hi))
        have KM3 := Lib.hid (KM2.out.grown hg (fun e => by have := SZ.out; have := NEG.out; injection e with e; omega))
        have G3 := Lib.hid (only_trans G2.out hg)
        clear j2 j3 jo hs hv3 hp3 hg CB2 V2 KM2 KL2 KH2 G2
        have x0 : w3.cell? ⟨X, 0, none⟩ = some (.int .i64 m.id) := KM3.out.cell 0
        have x2 : w3.cell? ⟨X, 2, none⟩ = some (.int .i64 m.p.l) := KM3.out.cell 2
        have x3 : w3.cell? ⟨X, 3, none⟩ = some (.int .i64 m.p.s) := KM3.out.cell 3
        obtain ⟨rb, hrb⟩ : ∃ rb, rb = rootB (m.p.l + 1) m.p.s := ⟨_, rfl⟩
        have HRB := Lib.hid hrb
        clear hrb
        have KM4 := Lib.hid (KM3.out.alloc (.cells rb.cs 38))
        have V4 := Lib.hid (V3.out.alloc (.cells rb.cs 38))
        have G4 := Lib.hid (only_alloc G3.out (.cells rb.cs 38))
        have KP4 := Lib.hid (Bk.new w3 38 rb.cs)
        obtain ⟨P, hP⟩ : ∃ P, P = w3.heap.size := ⟨_, rfl⟩
        have PZ := Lib.hid (show w.heap.size ≤ P ∧ P ≠ X ∧ (P ≠ g ∧ P ≠ b ∧ P ≠ gs ∧ P ≠ r) by have h1 := KM3.out.lt; have h2 := G3.out.size; have h3 := V3.out.gs_ne; omega)
        rw [← hP] at KP4
        as_aux_lemma =>
          go_upto_region 8 with (first | (refine build_rootB rfl _ _ rfl (m.p.l + 1) m.p.s (by first | rfl | (rw [← wl2]; rfl)) rfl ?_; rw [← HRB.out]) | (refine store_page_new rfl _ _ rfl rb rfl rfl ?_; rw [← hP]; clear hP; generalize w3.alloc (.cells rb.cs 38) = w4 at *))
          clear x0 x2 x3 KM3 V3 G3
          have c1 := inC_facts ⟨#[]⟩ le (by decide) (by have := I.out; omega) (by have := I.out; have := N1024.out; omega)
          have CI := Lib.hid (CI1.out w4 le (by have := I.out; omega) (by have := I.out; have := N1024.out; omega))
          clear c1 CI1
          as_aux_lemma =>
            go_wp2_with fail
            refine CI.out.mono ?_
            rintro e w5 ⟨rfl, hb⟩
            have KM5 := Lib.hid (KM4.out.kept hb); have V5 := Lib.hid (V4.out.kept hb); have KP5 := Lib.hid (KP4.out.kept hb)
            have G5 := Lib.hid (only_trans G4.out (only_below hb (some b)))
            clear hb KM4 V4 KP4 G4 CI
            obtain ⟨ca, hca⟩ : ∃ ca, ca = inC ⟨#[]⟩ le := ⟨_, rfl⟩
            have HCA := Lib.hid hca
            rw [← hca]
            clear hca
            have KP6 := Lib.hid (putRow rb 0 (by omega) ca.st ca.d KP5.out)
            have KM6 := Lib.hid (KM5.out.grown (setCells_only w5 P (4 + 0 * 2) [.int .i64 ca.st, .string ca.d]) (fun e => PZ.out.2.1 (by injection e with e; exact e.symm)))
            have V6 := Lib.hid (V5.out.grown (setCells_only w5 P (4 + 0 * 2) [.int .i64 ca.st, .string ca.d]) (fun k hk => by cases hk; exact PZ.out.2.2))
            have G6 := Lib.hid (only_setCells G5.out PZ.out.1 (4 + 0 * 2) [.int .i64 ca.st, .string ca.d])
            as_aux_lemma =>
              go_upto_region 9 with (refine store_cell_at rfl _ _ rfl P rb 0 (by omega) ca.st ca.d rfl rfl KP5.out ?_; generalize w5.setCells P (4 + 0 * 2) [.int .i64 ca.st, .string ca.d] = w6 at *)
              clear KP5 KM5 V5 G5
              have CI := Lib.hid (CI2.out w6 ri (by have := J.out.1; omega) (by have := J.out.1; have := N1024.out; omega))
              clear CI2
              as_aux_lemma =>
                go_wp2_with fail
                refine CI.out.mono ?_
                rintro e w7 ⟨rfl, hb⟩
                have KM7 := Lib.hid (KM6.out.kept hb); have V7 := Lib.hid (V6.out.kept hb)
                obtain ⟨rc, hrc⟩ : ∃ rc, rc = putC rb 0 ⟨ca.st, ca.d⟩ := ⟨_, rfl⟩
                have KP7 := Lib.hid (show Bk w7 P 38 rc.cs from by rw [hrc]; exact KP6.out.kept hb)
                have HRC := Lib.hid hrc
                have G7 := Lib.hid (only_trans G6.out (only_below hb (some b)))
                clear hb KM6 V6 KP6 G6 CI hrc
                obtain ⟨cb, hcb⟩ : ∃ cb, cb = inC se ri := ⟨_, rfl⟩
                have HCB := Lib.hid hcb
                rw [← hcb]
                clear hcb
                have KP8 := Lib.hid (show Bk (w7.setCells P (4 + 1 * 2) [.int .i64 cb.st, .string cb.d]) P 38 (rootP m.p (inC ⟨#[]⟩ le) (inC se ri)).cs from by
                  have := putRow rc 1 (by omega) cb.st cb.d KP7.out
                  rw [← rootB_put, ← HRB.out, ← HCA.out, ← HCB.out]
                  rw [HRC.out] at this
                  exact this)
                have KM8 := Lib.hid (KM7.out.grown (setCells_only w7 P (4 + 1 * 2) [.int .i64 cb.st, .string cb.d]) (fun e => PZ.out.2.1 (by injection e with e; exact e.symm)))
                have V8 := Lib.hid (V7.out.grown (setCells_only w7 P (4 + 1 * 2) [.int .i64 cb.st, .string cb.d]) (fun k hk => by cases hk; exact PZ.out.2.2))
                have G8 := Lib.hid (only_setCells G7.out PZ.out.1 (4 + 1 * 2) [.int .i64 cb.st, .string cb.d])
                as_aux_lemma =>
                  go_upto_region 12 with (refine store_cell_at rfl _ _ rfl P rc 1 (by omega) cb.st cb.d rfl rfl KP7.out ?_; generalize w7.setCells P (4 + 1 * 2) [.int .i64 cb.st, .string cb.d] = w8 at *)
                  clear KP7 KM7 V7 G7
                  have x0 : w8.cell? ⟨X, 0, none⟩ = some (.int .i64 (id : Nat)) := by have := KM8.out.cell 0; rw [← MI.out]; exact this
                  have CS := Lib.hid (CST.out w8 _ (rootP m.p (inC ⟨#[]⟩ le) (inC se ri)) (HOK.out le ri I.out.1 I.out.2.1 J.out.1.1 J.out.1.2.1) V8.out)
                  clear CST
                  as_aux_lemma =>
                    go_wp2_with (refine load_page rfl _ rfl P (rootP m.p (inC ⟨#[]⟩ le) (inC se ri)) rfl KP8.out ?_)
                    refine CS.out.mono ?_
                    rintro e w9 ⟨rfl, hs, hg⟩
                    have RES := Lib.hid (show DeepP w B g b gs r N M n und pg st kd rt ow m id low high se (.returned (.int .i64 0)) w9 from ⟨only_trans G8.out hg, .inr ⟨le, ri, x, y, pg3, J.out.2, I.out, J.out.1, rfl, hs.mono (by omega), VO.out, PP3.out⟩⟩)
                    clear hs hg CS KP8 KM8 V8 G8 x0
                    go_wp2
                    go_ret
                    exact RES.out
end Go.Proofs.YtelbioooggnbiaaGreat
namespace Go.Proofs.YtelbioooggnbiaaGreat
open Go.RowKit Go.Maps

/-- Steps that lie in a block. -/
def PthAt (w : World) (g2 : Nat) (l : List Im) : Prop := g2 < w.heap.size ∧ ∀ i m, l[i]? = some m → w.rangeAt g2 (i * 17) m.cs.toList
theorem PthAt.block {w w' : World} {g2 : Nat} {l : List Im} (h : PthAt w g2 l) (hb : w'.heap[g2]? = w.heap[g2]?) : PthAt w' g2 l := by
  refine ⟨by have := h.1; rw [Array.getElem?_eq_getElem this] at hb; exact (Array.getElem?_eq_some_iff.1 hb).1, fun i m hi j v hv => ?_⟩
  have := h.2 i m hi j v hv
  unfold World.cell? at this ⊢
  simp only [hb]
  exact this
theorem PthAt.kept {w w' : World} {g2 : Nat} {l : List Im} (h : PthAt w g2 l) (hb : Below w.heap.size w w') : PthAt w' g2 l := h.block (hb.block g2 h.1)
theorem PthAt.grown {w w' : World} {g2 : Nat} {l : List Im} (h : PthAt w g2 l) {row : Option Nat} (hg : w.grownBy w' row) (hr : some g2 ≠ row) : PthAt w' g2 l := h.block (hg.block g2 h.1 hr)
theorem PthAt.alloc {w : World} {g2 : Nat} {l : List Im} (h : PthAt w g2 l) (o : Obj) : PthAt (w.alloc o) g2 l := h.kept ((Below.refl _ _).alloc (Nat.le_refl _) o)
theorem PthAt.row {w : World} {g2 q : Nat} {l : List Im} (h : PthAt w g2 l) (hq : g2 ≠ q) (cs : Array Value) : PthAt (w.setRow q cs) g2 l := h.block (setRow_other _ _ _ _ hq)
theorem root_ok_pg {p : Pg} (hp : p.ok) (hl : p.l ≤ 254) {se : ByteArray} (h8 : se.size ≤ 8) (h0 : se.size ≠ 0) {le ri : Nat} (h1 : 2 ≤ le ∧ le < 1024) (h2 : 2 ≤ ri ∧ ri < 1024) : (rootP p (inC ⟨#[]⟩ le) (inC se ri)).ok := by
  obtain ⟨a1, a2, a3, a4, a5⟩ := inC_facts ⟨#[]⟩ le (by decide) (by omega) h1.2
  obtain ⟨b1, b2, b3, b4, b5⟩ := inC_facts se ri h8 (by omega) h2.2
  have hh := hp.1
  have k1 := rootP_ok (p := p) hh.2.2.1 (a5 0 ⟨fun _ => rfl, fun _ => rfl⟩) (b5 1 ⟨fun h => absurd h h0, fun h => by omega⟩) (by rw [a2]; rfl) (by rw [b2]; exact h0)
  refine node_ok_pg k1 ?_
  unfold Pg.head at hh ⊢
  unfold rootP
  dsimp only
  omega
theorem sep_size {p : Pg} (h : nodeOk p) (h6 : cnt p.c = 6) : (sepOf p).size ≠ 0 ∧ (sepOf p).size ≤ 8 := by
  have hc := node_cell h 3 (by omega)
  have e3 := half6 h6
  unfold sepOf
  rw [e3]
  refine ⟨?_, Ce.key_size _⟩
  unfold cellOk at hc
  split at hc
  · exact hc.2.1
  · exact fun e => absurd (hc.2.2.1 e) (by decide)
theorem putE_full {p : Pg} {c : Ce} (h1 : c.says) (h2 : fThere p c.key = false) (h3 : cnt p.c = 6) : putE p c = 140 ∧ putP p c = Pg.zero := by
  have e : putE p c = 140 := by unfold putE; rw [if_neg (by simp [h1]), if_neg (by simp [h2]), if_pos h3]
  exact ⟨e, by unfold putP; rw [e]; rfl⟩
/-- What insert leaves. -/
def InsP (w : World) (B g b gs r N M n : Nat) (und pg : Nat → Pg) (st : Nat → Int) (kd rt : Nat → Nat) (ow : Nat → Option Int) (sn : Int) (rr H : Nat) (lf ids : List Nat) (R : List (ByteArray × Ce)) (ff : Prop) (k : ByteArray) (c0 : Ce) (e : Ending) (w' : World) : Prop :=
  w.grownBy w' (some b) ∧
  ((e = .returned (.int .i64 140) ∧ (∃ nn : List Nat, nn.length ≤ H + 1 ∧ ∀ i, i < n → (ow i).isSome = true ∨ i ∈ nn) ∧ ∃ pgx, SV w' B g b gs r N (M + 40) und pgx) ∨
  (e = .returned (.int .i64 0) ∧ ∃ (pg' : Nat → Pg) (ow' : Nat → Option Int) (H' : Nat) (lf' ids' : List Nat) (R' : List (ByteArray × Ce)) (news : List Nat), SV w' B g b gs r N (M + 40) und pg' ∧ Vol pg' n st kd rt ow' ∧ Ix pg' n ow' sn rr H' lf' ids' R' ff ∧ RIns R R' k c0 ∧
    (ids'.Perm (news ++ ids) ∧ lf'.length ≤ lf.length + 1) ∧ (∀ i, i ∈ news → ow i = none) ∧ (∀ i, i ∉ news → ow' i = ow i) ∧ (∀ i, i ≠ 1 → i ∉ ids → i ∉ news → pg' i = pg i)))
section
variable {pg pgc : Nat → Pg} {n : Nat} {ow owc : Nat → Option Int} {sn : Int} {rt H : Nat} {lf ids : List Nat} {R : List (ByteArray × Ce)} {ff : Prop} {k : ByteArray} {c0 c : Ce} {j : Nat} {news : List Nat} {st : Nat → Int} {kd rts : Nat → Nat}
/-- Pages that are full: all that were owned, or are new. -/
theorem InsSt.full (h : InsSt pg n ow sn rt H lf ids R ff k c0 j c pgc owc news) (hf : ∀ i, i < n → (owc i).isSome = true) : ∃ nn : List Nat, nn.length ≤ H + 1 ∧ ∀ i, i < n → (ow i).isSome = true ∨ i ∈ nn :=
  ⟨news, by rw [h.len]; omega, fun i hi => by
    by_cases e : i ∈ news
    · exact .inr e
    · have := hf i hi
      rw [h.owo i e] at this
      exact .inl this⟩
theorem InsSt.full1 (h : InsSt pg n ow sn rt H lf ids R ff k c0 j c pgc owc news) {y : Nat} (hf : ∀ i, i < n → (owc i).isSome = true ∨ i = y) : ∃ nn : List Nat, nn.length ≤ H + 1 ∧ ∀ i, i < n → (ow i).isSome = true ∨ i ∈ nn :=
  ⟨y :: news, by rw [List.length_cons, h.len]; omega, fun i hi => by
    by_cases e : i ∈ news
    · exact .inr (List.mem_cons_of_mem _ e)
    · rcases hf i hi with this | rfl
      · rw [h.owo i e] at this
        exact .inl this
      · exact .inr List.mem_cons_self⟩
/-- The node has taken the cell: what insert leaves. -/
theorem InsSt.done {w w' : World} {B g b gs r N M M' : Nat} {und pgr : Nat → Pg} (h : InsSt pg n ow sn rt H lf ids R ff k c0 j c pgc owc news) (h6 : cnt (pg (dn pg k rt j)).c ≠ 6) (hv : Vol pgr n st kd rts owc) (hr : ∀ i, i ≠ dn pg k rt j → pgr i = pgc i)
    (hs : SV w' B g b gs r N M' und (upd pgr (dn pg k rt j) (putP (pg (dn pg k rt j)) c))) (hM : M' ≤ M + 40) (hg : w.grownBy w' (some b)) : InsP w B g b gs r N M n und pg st kd rts ow sn rt H lf ids R ff k c0 (.returned (.int .i64 0)) w' := by
  obtain ⟨f1, f2, lf', ids', R', hx, hp, hri⟩ := h.fit h6
  have e : upd pgr (dn pg k rt j) (putP (pg (dn pg k rt j)) c) = upd pgc (dn pg k rt j) (putP (pg (dn pg k rt j)) c) := by
    funext i
    by_cases e : i = dn pg k rt j
    · rw [e, upd_at, upd_at]
    · rw [upd_ne _ _ e, upd_ne _ _ e]; exact hr i e
  have hm := (h.ix.at_ k j h.hj).2.1
  have ho := (h.old _ hm).1
  refine ⟨hg, .inr ⟨rfl, _, owc, H, lf', ids', R', news, hs.mono hM, hv.relay _ ho.two _ (by rw [ho.ow, f2]), by rw [e]; exact hx, hri, hp, fun i hi => (h.nw i hi).2.1, h.owo, fun i h1 h2 h3 => ?_⟩⟩
  have hne : i ≠ dn pg k rt j := fun e => h2 (e ▸ hm)
  rw [upd_ne _ _ hne, hr i hne]
  exact h.out i h1 h2 h3
/-- A volume with two halves laid. -/
theorem vol_two {pg2 : Nat → Pg} {x : Int} {id at_ : Nat} {low high : Pg} (hv : Vol pg2 n st kd rts (put owc id (some x))) (ha : 2 ≤ at_) (hid : 2 ≤ id) (hne : at_ ≠ id) (hao : owc at_ = some low.s) (hl : (lnk low id).s = low.s) : Vol (upd (upd pg2 at_ (lnk low id)) id high) n st kd rts (put owc id (some high.s)) := by
  have v1 := hv.relay at_ ha (lnk low id) (by rw [put_ne _ _ hne, hao, hl])
  have v2 := v1.lay id hid high
  rw [put_at, if_pos (show (some x : Option Int).isSome = true from rfl)] at v2
  have e : put (put owc id (some x)) id (some high.s) = put owc id (some high.s) := by
    funext i; unfold put; split <;> rfl
  rwa [e] at v2
/-- On, a level up. -/
theorem InsSt.up {j : Nat} (h : InsSt pg n ow sn rt H lf ids R ff k c0 (j + 1) c pgc owc news) (h6 : cnt (pg (dn pg k rt (j + 1))).c = 6) {pgr pg2 : Nat → Pg} {x : Int} {id : Nat} (hr : ∀ i, i ≠ dn pg k rt (j + 1) → pgr i = pgc i) (hp2 : ∀ i, i ≠ 1 → pg2 i = pgr i) (i2 : 2 ≤ id) (i3 : id < n) (ho : owc id = none) (hv : Vol pg2 n st kd rts (put owc id (some x))) :
    InsSt pg n ow sn rt H lf ids R ff k c0 j (inC (sepOf (pg (dn pg k rt (j + 1)))) id) (upd (upd pg2 (dn pg k rt (j + 1)) (lnk (lowH (pg (dn pg k rt (j + 1))) c) id)) id (highH (pg (dn pg k rt (j + 1))) c)) (put owc id (some sn)) (id :: news) ∧
    Vol (upd (upd pg2 (dn pg k rt (j + 1)) (lnk (lowH (pg (dn pg k rt (j + 1))) c) id)) id (highH (pg (dn pg k rt (j + 1))) c)) n st kd rts (put owc id (some sn)) := by
  have hm := (h.ix.at_ k (j + 1) h.hj).2.1
  have hp := h.ix.pgs _ hm
  have ho2 := (h.old _ hm).1
  obtain ⟨m, hv2⟩ := hv_all hp.nd h6 h.there h.cell
  obtain ⟨g1, g2, g3, g4, g5⟩ := hv_pages hv2 hp.ok (show id < 1024 by have := h.ix.hn; omega)
  obtain ⟨s1, s2⟩ := sep_size hp.nd h6
  obtain ⟨c1, c2, c3, c4, c5⟩ := inC_facts (sepOf (pg (dn pg k rt (j + 1)))) id s2 (by omega) (by have := h.ix.hn; omega)
  have hne : dn pg k rt (j + 1) ≠ id := fun e => by rw [← e, ho2.ow] at ho; cases ho
  have hls : (lowH (pg (dn pg k rt (j + 1))) c).s = sn := by rw [hv2.lh.2.1]; exact hp.s
  constructor
  · refine h.split h6 hv2 _ _ i2 i3 ho (put_at _ _ _) (fun i hi => put_ne _ _ hi) (fun i h1 h2 h3 => ?_) ?_ ?_ c2 c3 (c5 1 ⟨fun e => absurd e s1, fun e => by omega⟩)
    · rw [upd_ne _ _ h3, upd_ne _ _ h2, hp2 i h1]; exact hr i h2
    · rw [upd_ne _ _ hne, upd_at]
    · rw [upd_at]
  · have := vol_two (low := lowH (pg (dn pg k rt (j + 1))) c) (high := highH (pg (dn pg k rt (j + 1))) c) hv ho2.two i2 hne (by rw [hls]; exact ho2.ow) (by rw [g4, hls]; exact hp.s)
    rw [show (highH (pg (dn pg k rt (j + 1))) c).s = sn from g5.trans hp.s] at this
    exact this
/-- The root has grown: what insert leaves. -/
theorem InsSt.grown {w w' : World} {B g b gs r N M M' : Nat} {und pgr pg3 : Nat → Pg} {le ri : Nat} {x y : Int} (h : InsSt pg n ow sn rt H lf ids R ff k c0 0 c pgc owc news) (h6 : cnt (pg rt).c = 6) (hr : ∀ i, i ≠ rt → pgr i = pgc i) (hp3 : ∀ i, i ≠ 1 → pg3 i = pgr i)
    (hne : le ≠ ri) (hle : 2 ≤ le ∧ le < n ∧ owc le = none) (hri : 2 ≤ ri ∧ ri < n ∧ owc ri = none) (hv : Vol pg3 n st kd rts (put (put owc le (some x)) ri (some y)))
    (hs : SV w' B g b gs r N M' und (upd (upd (upd pg3 le (lnk (lowH (pg rt) c) ri)) ri (highH (pg rt) c)) rt (rootP (pg rt) (inC ⟨#[]⟩ le) (inC (sepOf (pg rt)) ri)))) (hM : M' ≤ M + 40) (hg : w.grownBy w' (some b)) : InsP w B g b gs r N M n und pg st kd rts ow sn rt H lf ids R ff k c0 (.returned (.int .i64 0)) w' := by
  have hm := (h.ix.at_ k 0 h.hj).2.1
  change rt ∈ ids at hm
  have hp := h.ix.pgs _ hm
  have ho2 := (h.old _ hm).1
  obtain ⟨m, hv2⟩ := hv_all hp.nd h6 h.there h.cell
  have n1024 := h.ix.hn
  obtain ⟨g1, g2, g3, g4, g5⟩ := hv_pages hv2 hp.ok (show ri < 1024 by omega)
  obtain ⟨s1, s2⟩ := sep_size hp.nd h6
  obtain ⟨a1, a2, a3, a4, a5⟩ := inC_facts ⟨#[]⟩ le (by decide) (by omega) (by omega)
  obtain ⟨c1, c2, c3, c4, c5⟩ := inC_facts (sepOf (pg rt)) ri s2 (by omega) (by omega)
  have nl : rt ≠ le := fun e => by have := hle.2.2; rw [← e, ho2.ow] at this; cases this
  have nr : rt ≠ ri := fun e => by have := hri.2.2; rw [← e, ho2.ow] at this; cases this
  have T := h.deep h6 hv2 (upd (upd (upd pg3 le (lnk (lowH (pg rt) c) ri)) ri (highH (pg rt) c)) rt (rootP (pg rt) (inC ⟨#[]⟩ le) (inC (sepOf (pg rt)) ri))) (put (put owc le (some sn)) ri (some sn)) hne
    ⟨hle.1, hle.2.1, hle.2.2, by rw [put_ne _ _ hne, put_at]⟩ ⟨hri.1, hri.2.1, hri.2.2, put_at _ _ _⟩ (fun i h1 h2 => by rw [put_ne _ _ h2, put_ne _ _ h1]) (fun i h1 h2 h3 h4 => by rw [upd_ne _ _ h2, upd_ne _ _ h4, upd_ne _ _ h3, hp3 i h1]; exact hr i h2)
    (by rw [upd_ne _ _ (Ne.symm nl), upd_ne _ _ hne, upd_at]) (by rw [upd_ne _ _ (Ne.symm nr), upd_at]) (by rw [a2]; rfl) a3 (a5 0 ⟨fun _ => rfl, fun _ => rfl⟩) c2 c3 (c5 1 ⟨fun e => absurd e s1, fun e => by omega⟩) (upd_at _ _ _)
  obtain ⟨-, lf', ids', R', hx, hpm, hri2⟩ := T
  have v1 := hv.lay le hle.1 (lnk (lowH (pg rt) c) ri)
  rw [if_pos (by rw [put_ne _ _ hne, put_at]; rfl)] at v1
  have v2 := v1.lay ri hri.1 (highH (pg rt) c)
  rw [if_pos (by rw [put_ne _ _ (Ne.symm hne), put_at]; rfl)] at v2
  have eo : put (put (put (put owc le (some x)) ri (some y)) le (some (lnk (lowH (pg rt) c) ri).s)) ri (some (highH (pg rt) c).s) = put (put owc le (some sn)) ri (some sn) := by
    rw [show (lnk (lowH (pg rt) c) ri).s = sn from g4.trans hp.s, show (highH (pg rt) c).s = sn from g5.trans hp.s]
    funext i
    unfold put
    by_cases e1 : i = ri
    · simp [e1]
    · by_cases e2 : i = le <;> simp [e1, e2]
  rw [eo] at v2
  have v3 := v2.relay rt hp.two (rootP (pg rt) (inC ⟨#[]⟩ le) (inC (sepOf (pg rt)) ri)) (by rw [put_ne _ _ nr, put_ne _ _ nl, ho2.ow]; show some sn = some (pg rt).s; rw [hp.s])
  refine ⟨hg, .inr ⟨rfl, _, _, _, lf', ids', R', le :: ri :: news, hs.mono hM, v3, hx, hri2, ⟨by simpa using hpm.1, hpm.2⟩, fun i hi => ?_, fun i hi => ?_, fun i h1 h2 h3 => ?_⟩⟩
  · have other : ∀ q, 2 ≤ q → owc q = none → ow q = none := fun q hq ho => by
      by_cases e : q ∈ news
      · exact (h.nw q e).2.1
      · rw [← h.owo q e]; exact ho
    rcases List.mem_cons.1 hi with rfl | hi
    · exact other _ hle.1 hle.2.2
    · rcases List.mem_cons.1 hi with rfl | hi
      · exact other _ hri.1 hri.2.2
      · exact (h.nw i hi).2.1
  · have e1 : i ≠ le := fun e => hi (e ▸ List.mem_cons_self)
    have e2 : i ≠ ri := fun e => hi (e ▸ List.mem_cons_of_mem _ List.mem_cons_self)
    rw [put_ne _ _ e2, put_ne _ _ e1]
    exact h.owo i fun hx => hi (List.mem_cons_of_mem _ (List.mem_cons_of_mem _ hx))
  · have e1 : i ≠ le := fun e => h3 (e ▸ List.mem_cons_self)
    have e2 : i ≠ ri := fun e => h3 (e ▸ List.mem_cons_of_mem _ List.mem_cons_self)
    have e3 : i ≠ rt := fun e => h2 (e ▸ hm)
    rw [upd_ne _ _ e3, upd_ne _ _ e2, upd_ne _ _ e1, hp3 i h1, hr i e3]
    exact h.out i h1 h2 fun hx => h3 (List.mem_cons_of_mem _ (List.mem_cons_of_mem _ hx))
end
end Go.Proofs.YtelbioooggnbiaaGreat
namespace Go.Proofs.YtelbioooggnbiaaGreat
open Go.RowKit Go.Maps

set_option maxRecDepth 100000 in
set_option maxHeartbeats 16000000 in
theorem tinsert_any {w : World} {B g b gs r N M n : Nat} {und pg pgr : Nat → Pg} {st : Nat → Int} {kd rts : Nat → Nat} {ow : Nat → Option Int} {sn : Int} {rt H : Nat} {lf ids : List Nat} {R : List (ByteArray × Ce)} {ff : Prop} {k : ByteArray} {c0 : Ce} (h : SV w B g b gs r N M und pgr) (hn : n ≤ N) (hv : Vol pgr n st kd rts ow)
    (hi : InsSt pg n ow sn rt H lf ids R ff k c0 H c0 pg ow []) (hr : ∀ i, i ≠ dn pg k rt H → pgr i = pg i) (hM : M + 40 < maxLen) (g2 cap : Nat) (hp : PthAt w g2 (pathL pg k rt H)) (hgb : g2 ≠ b) (hgE : ∀ q cs, Bk w q 35 cs → g2 ≠ q) (hc0 : c0.d.size ≤ maxLen) :
    Calls Tryz.prog 58 #[.pointer (some ⟨g, 0, none⟩), .slice (some ⟨g2, 0, none⟩) (H + 1) cap, .agg #[.int .i64 c0.st, .string c0.d]] w (InsP w B g b gs r N M n und pg st kd rts ow sn rt H lf ids R ff k c0) := by
  have NEG := Lib.hid h.gs_ne
  have HN := Lib.hid hn; have HM := Lib.hid hM; have HGB := Lib.hid hgb
  have IX := Lib.hid hi.ix
  have H9 := Lib.hid hi.ix.high
  have N1024 := Lib.hid hi.ix.hn
  have PG := Lib.hid (fun j hj => hi.ix.pgs _ (hi.ix.at_ k j hj).2.1)
  have LV := Lib.hid (fun j hj => (hi.ix.at_ k j hj).2.2)
  have KE := Lib.hid (Bk.new w 35 #[.int .i64 c0.st, .string c0.d])
  have V1 := Lib.hid (h.alloc (.cells #[.int .i64 c0.st, .string c0.d] 35))
  have P1 := Lib.hid (hp.alloc (.cells #[.int .i64 c0.st, .string c0.d] 35))
  have G1 := Lib.hid (World.grownBy_alloc w (.cells #[.int .i64 c0.st, .string c0.d] 35) (some b))
  have VO := Lib.hid hv; have HI := Lib.hid hi; have HR := Lib.hid hr; have C0 := Lib.hid hc0
  have G2W := Lib.hid hp.1
  clear h hn hv hi hr hM hp hgb hgE hc0
  go_enter Tryz.func58, Tryz.ntmps58
  go_upto_region 1 with fail
  obtain ⟨E, hE⟩ : ∃ E, E = w.heap.size := ⟨_, rfl⟩
  rw [← hE] at KE ⊢
  have EZ := Lib.hid (show w.heap.size ≤ E ∧ E ≠ g2 ∧ (E ≠ g ∧ E ≠ b ∧ E ≠ gs ∧ E ≠ r) by have h1 := G2W.out; have h2 := NEG.out; omega)
  obtain ⟨w1, hw1⟩ : ∃ w1, w1 = w.alloc (.cells #[.int .i64 c0.st, .string c0.d] 35) := ⟨_, rfl⟩
  rw [← hw1] at KE V1 P1 G1 ⊢
  clear hw1 hE
  have hH := H9.out
  have i1 : wrap64 (((H + 1 : Nat) : Int) - 1) = (H : Int) := by unfold wrap64; omega
  have i4 : (((H + 1 : Nat) : Int) - 1) = (H : Int) := by omega
  go_upto_region 2 with fail
  go_loopw [7] (fun i wr => ∃ (j : Nat) (c : Ce) (pgc pgr' : Nat → Pg) (owc : Nat → Option Int) (news : List Nat) (M' : Nat), i = .int .i64 j ∧ InsSt pg n ow sn rt H lf ids R ff k c0 j c pgc owc news ∧ SV wr B g b gs r N M' und pgr' ∧ M' + 3 * j ≤ M + 3 * H ∧ Vol pgr' n st kd rts owc ∧ (∀ i, i ≠ dn pg k rt j → pgr' i = pgc i) ∧ Bk wr E 35 #[.int .i64 c.st, .string c.d] ∧ PthAt wr g2 (pathL pg k rt H) ∧ w.grownBy wr (some b) ∧ c.d.size ≤ maxLen) (fun i _ => (RowKit.intOf i).toNat)
  case atStart => exact ⟨H, c0, pg, pgr, ow, [], M, rfl, HI.out, V1.out, Nat.le_refl _, VO.out, HR.out, KE.out, P1.out, G1.out, C0.out⟩
  case round =>
    obtain ⟨j, c, pgc, pgr', owc, news, M', rfl, hi, hs, hm, hvo, hr, hke, hpa, hg, hcs⟩ := hrel
    have HI' := Lib.hid hi; have V := Lib.hid hs; have MM := Lib.hid hm; have VOL := Lib.hid hvo; have PR := Lib.hid hr; have K := Lib.hid hke; have PA := Lib.hid hpa; have GG := Lib.hid hg; have CS := Lib.hid hcs
    have JH := Lib.hid hi.hj
    obtain ⟨p, hpp⟩ : ∃ p, p = pg (dn pg k rt j) := ⟨_, rfl⟩
    have HP := Lib.hid hpp
    have PGJ := Lib.hid (PG.out j hi.hj)
    have PND := Lib.hid (show nodeOk p from by rw [hpp]; exact (PG.out j hi.hj).nd)
    have POK := Lib.hid (show p.ok from by rw [hpp]; exact (PG.out j hi.hj).ok)
    have THR := Lib.hid (show fThere p c.key = false from by rw [hpp]; exact hi.there)
    have CEL := Lib.hid (show cellFor p c from by rw [hpp]; exact hi.cell)
    obtain ⟨m, hm0⟩ : ∃ m : Im, m = ⟨(dn pg k rt j : Nat), p⟩ := ⟨_, rfl⟩
    have MP := Lib.hid (show m.p = p ∧ m.id = (dn pg k rt j : Nat) from by rw [hm0]; exact ⟨rfl, rfl⟩)
    have RG := Lib.hid (show wr.rangeAt g2 (j * 17) m.cs.toList from hpa.2 j m (by rw [hm0, hpp]; exact pathL_at pg k rt hi.hj))
    have j1 : (j : Int) < ((H + 1 : Nat) : Int) := by have := hi.hj; omega
    have j2 : ¬ (j : Int) < 0 := by omega
    have j3 : (0 : Int) ≤ (j : Int) := by omega
    clear hi hs hm hvo hr hke hpa hg hcs hpp hm0 KE V1 P1 G1 i1 i4 VO HI HR C0
    have K2 := Lib.hid (K.out.alloc (.cells m.cs 122))
    have V2 := Lib.hid (V.out.alloc (.cells m.cs 122))
    have PA2 := Lib.hid (PA.out.alloc (.cells m.cs 122))
    have GG2 := Lib.hid (only_alloc GG.out (.cells m.cs 122))
    have KC2 := Lib.hid (Bk.new wr 122 m.cs)
    obtain ⟨C, hC⟩ : ∃ C, C = wr.heap.size := ⟨_, rfl⟩
    have CZ := Lib.hid (show C ≠ b ∧ C ≠ E by have h1 := V.out.gs_ne; have h2 := K.out.lt; omega)
    rw [← hC] at KC2
    have CPUT := Lib.hid (fun w' => nput_any p c w' (node_sz PND.out) CS.out)
    unfold Pg.v Ce.v at CPUT
    as_aux_lemma =>
      go_upto_region 5 with (first | (refine load_pth rfl _ rfl g2 m j rfl RG.out ?_) | (refine store_st_new rfl _ _ rfl m rfl rfl ?_; rw [← hC]; clear hC; generalize wr.alloc (.cells m.cs 122) = w2 at *))
      clear K V PA GG RG j1
      as_aux_lemma =>
        go_wp2_with (first | (refine load_st_page rfl _ rfl C m rfl KC2.out ?_; rw [MP.out.1]) | (refine load_ce rfl _ rfl E c.st c.d rfl K2.out ?_))
        refine (CPUT.out _).mono ?_
        rintro e w3 ⟨rfl, hb⟩
        obtain ⟨pp, hpp⟩ : ∃ pp, pp = putP p c := ⟨_, rfl⟩
        have PPE := Lib.hid hpp
        rw [← hpp]
        have K4 := Lib.hid ((K2.out.kept hb).alloc (.cells pp.cs 38))
        have V4 := Lib.hid ((V2.out.kept hb).alloc (.cells pp.cs 38))
        have PA4 := Lib.hid ((PA2.out.kept hb).alloc (.cells pp.cs 38))
        have GG4 := Lib.hid (only_alloc (only_trans GG2.out (only_below hb (some b))) (.cells pp.cs 38))
        have KC4 := Lib.hid ((KC2.out.kept hb).alloc (.cells pp.cs 38))
        have KQ4 := Lib.hid (Bk.new w3 38 pp.cs)
        obtain ⟨Q, hQ⟩ : ∃ Q, Q = w3.heap.size := ⟨_, rfl⟩
        rw [← hQ] at KQ4
        clear hb hpp K2 V2 PA2 GG2 KC2 CPUT
        by_cases h6 : cnt p.c = 6
        · obtain ⟨e1, -⟩ := putE_full CEL.out.says THR.out h6
          have H6 := Lib.hid h6
          rw [e1]
          clear h6 e1
          as_aux_lemma =>
            go_upto_region 6 with (refine store_page_new rfl _ _ rfl pp rfl rfl ?_; rw [← hQ]; clear hQ; generalize w3.alloc (.cells pp.cs 38) = w4 at *)
            have CHV := Lib.hid (fun w' => halves_any p c w' PND.out H6.out THR.out CEL.out CS.out)
            clear KQ4
            have SEP := Lib.hid (sep_size PND.out H6.out)
            have HVP := Lib.hid (show ∃ mm, Hv p c (lowH p c) (highH p c) mm from hv_all PND.out H6.out THR.out CEL.out)
            as_aux_lemma =>
              go_wp2_with (first | (refine load_st_page rfl _ rfl C m rfl KC4.out ?_; rw [MP.out.1]) | (refine load_ce rfl _ rfl E c.st c.d rfl K4.out ?_))
              refine (CHV.out _).mono ?_
              rintro e w5 ⟨rfl, hb⟩
              obtain ⟨lo, hlo⟩ : ∃ lo, lo = lowH p c := ⟨_, rfl⟩
              obtain ⟨hi, hhi⟩ : ∃ hi, hi = highH p c := ⟨_, rfl⟩
              obtain ⟨se, hse⟩ : ∃ se, se = sepOf p := ⟨_, rfl⟩
              have LOE := Lib.hid hlo; have HIE := Lib.hid hhi; have SEE := Lib.hid hse
              rw [← hlo, ← hhi, ← hse]
              rw [← hlo, ← hhi] at HVP
              rw [← hse] at SEP
              clear hlo hhi hse
              have Ka := Lib.hid (((K4.out.kept hb).alloc (.cells Pg.zero.cs 38)).alloc (.cells Pg.zero.cs 38))
              have Va := Lib.hid (((V4.out.kept hb).alloc (.cells Pg.zero.cs 38)).alloc (.cells Pg.zero.cs 38))
              have PAa := Lib.hid (((PA4.out.kept hb).alloc (.cells Pg.zero.cs 38)).alloc (.cells Pg.zero.cs 38))
              have GGa := Lib.hid (only_alloc (only_alloc (only_trans GG4.out (only_below hb (some b))) (.cells Pg.zero.cs 38)) (.cells Pg.zero.cs 38))
              have KCa := Lib.hid (((KC4.out.kept hb).alloc (.cells Pg.zero.cs 38)).alloc (.cells Pg.zero.cs 38))
              have K8 := Lib.hid ((Bk.new w5 38 Pg.zero.cs).alloc (.cells Pg.zero.cs 38))
              have K9 := Lib.hid (Bk.new2 w5 (.cells Pg.zero.cs 38) 38 Pg.zero.cs)
              obtain ⟨X8, h8⟩ : ∃ X, X = w5.heap.size := ⟨_, rfl⟩
              obtain ⟨X9, h9⟩ : ∃ X, X = w5.heap.size + 1 := ⟨_, rfl⟩
              have LT := Lib.hid (show w.heap.size ≤ X8 ∧ X9 = X8 + 1 ∧ E < X8 ∧ C < X8 ∧ g2 < X8 ∧ (X8 ≠ g ∧ X8 ≠ b ∧ X8 ≠ gs ∧ X8 ≠ r) ∧ (X9 ≠ g ∧ X9 ≠ b ∧ X9 ≠ gs ∧ X9 ≠ r) by have h1 := (K4.out.kept hb).lt; have h2 := (KC4.out.kept hb).lt; have h3 := (PA4.out.kept hb).1; have h4 := (V4.out.kept hb).gs_ne; have h5 := GG4.out.size; have h6 := hb.size; omega)
              obtain ⟨w6, hw6⟩ : ∃ w6, w6 = (w5.alloc (.cells Pg.zero.cs 38)).alloc (.cells Pg.zero.cs 38) := ⟨_, rfl⟩
              rw [← h9, ← hw6] at K9
              rw [← h8, ← hw6] at K8
              rw [← hw6] at Ka Va PAa GGa KCa
              have K9a := Lib.hid (row_far (cs := lo.cs) K9.out (show X9 ≠ X8 by have := LT.out; omega))
              have Kb := Lib.hid (row_far (cs := hi.cs) (row_far (cs := lo.cs) Ka.out (show E ≠ X8 by have := LT.out; omega)) (show E ≠ X9 by have := LT.out; omega))
              have KCb := Lib.hid (row_far (cs := hi.cs) (row_far (cs := lo.cs) KCa.out (show C ≠ X8 by have := LT.out; omega)) (show C ≠ X9 by have := LT.out; omega))
              have Vb := Lib.hid ((Va.out.row LT.out.2.2.2.2.2.1 lo.cs).row LT.out.2.2.2.2.2.2 hi.cs)
              have PAb := Lib.hid ((PAa.out.row (show g2 ≠ X8 by have := LT.out; omega) lo.cs).row (show g2 ≠ X9 by have := LT.out; omega) hi.cs)
              have GGb := Lib.hid (only_setRow (only_setRow GGa.out LT.out.1 lo.cs) (show w.heap.size ≤ X9 by have := LT.out; omega) hi.cs)
              have KLb := Lib.hid (row_far (cs := hi.cs) (row_bk (p := lo) K8.out) (show X8 ≠ X9 by have := LT.out; omega))
              have KHb := Lib.hid (row_bk (p := hi) K9a.out)
              clear hb K4 V4 PA4 GG4 KC4 Ka Va PAa GGa KCa CHV
              as_aux_lemma =>
                go_upto_region 11 with (first | (change wpList _ _ _ _ _ ((w5.alloc (.cells Pg.zero.cs 38)).alloc (.cells Pg.zero.cs 38)); rw [← hw6, ← h9, ← h8]; refine store_page rfl _ _ rfl X8 lo Pg.zero rfl rfl K8.out ?_) | (refine store_page rfl _ _ rfl X9 hi Pg.zero rfl rfl K9a.out ?_))
                rw [← hw6, ← h9, ← h8]
                obtain ⟨w7, hw7⟩ : ∃ w7, w7 = (w6.setRow X8 lo.cs).setRow X9 hi.cs := ⟨_, rfl⟩
                rw [← hw7] at Kb KCb Vb PAb GGb KLb KHb ⊢
                clear hw7 hw6 h8 h9 K8 K9 K9a
                by_cases hj0 : j = 0
                · subst hj0
                  have DOK := Lib.hid (show ∀ q : Nat, q < n → (lnk lo q).ok from fun q hq => by
                    obtain ⟨mm, hv⟩ := HVP.out
                    exact (hv_pages hv POK.out (show q < 1024 by have := N1024.out; omega)).1)
                  have HOK := Lib.hid (show hi.ok from by
                    obtain ⟨mm, hv⟩ := HVP.out
                    exact (hv_pages hv POK.out (show 0 < 1024 by omega)).2.1)
                  have LVE := LV.out 0 (Nat.zero_le _)
                  rw [← HP.out] at LVE
                  have CDP := Lib.hid (deepen_any Vb.out HN.out VOL.out (by have := MM.out; have := HM.out; have := H9.out; omega) m rt (Nat.lt_of_lt_of_le PGJ.out.lt HN.out) MP.out.2 lo hi DOK.out HOK.out se SEP.out.2 (by rw [MP.out.1, LVE]; have := H9.out; omega)
                    (fun le ri a1 a2 a3 a4 => by rw [MP.out.1]; exact root_ok_pg POK.out (by rw [LVE]; have := H9.out; omega) SEP.out.2 SEP.out.1 ⟨a1, by have := N1024.out; omega⟩ ⟨a3, by have := N1024.out; omega⟩))
                  clear LVE
                  as_aux_lemma =>
                    go_wp2_with (first | (refine load_st rfl _ rfl C m rfl KCb.out ?_) | (refine load_page rfl _ rfl X8 lo rfl KLb.out ?_) | (refine load_page rfl _ rfl X9 hi rfl KHb.out ?_))
                    refine CDP.out.mono ?_
                    rintro e w8 ⟨hg, ⟨rfl, ⟨y, hy⟩, pgx, hsx⟩ | ⟨le, ri, x, y, pg3, hne, hle, hri, rfl, hsx, hv3, hp3⟩⟩
                    · have RES := Lib.hid (show InsP w B g b gs r N M n und pg st kd rts ow sn rt H lf ids R ff k c0 (.returned (.int .i64 140)) w8 from ⟨only_trans GGb.out hg, .inl ⟨rfl, HI'.out.full1 hy, pgx, hsx.mono (by have := MM.out; have := H9.out; omega)⟩⟩)
                      clear hg hy hsx CDP Kb KCb Vb PAb GGb KLb KHb
                      go_wp2
                      go_ret
                      exact RES.out
                    · rw [MP.out.1, HP.out] at hsx
                      rw [LOE.out, HIE.out, SEE.out, HP.out] at hsx
                      have RES := Lib.hid (HI'.out.grown (w := w) (M := M) (by have := H6.out; rw [HP.out] at this; exact this) PR.out hp3 hne hle hri hv3 hsx (by have := MM.out; have := H9.out; omega) (only_trans GGb.out hg))
                      clear hg hsx hv3 hp3 hne hle hri CDP Kb KCb Vb PAb GGb KLb KHb
                      go_wp2
                      go_ret
                      exact RES.out
                · obtain ⟨j', rfl⟩ : ∃ j', j = j' + 1 := ⟨j - 1, by omega⟩
                  have j0b : (((j' + 1 : Nat) : Int) == 0) = false := by simp; omega
                  have j0c : ((j' : Int) + 1 == 0) = false := by simp; omega
                  have DOK := Lib.hid (show ∀ q : Nat, q < n → (lnk lo q).ok from fun q hq => by
                    obtain ⟨mm, hv⟩ := HVP.out
                    exact (hv_pages hv POK.out (show q < 1024 by have := N1024.out; omega)).1)
                  have HOK := Lib.hid (show hi.ok from by
                    obtain ⟨mm, hv⟩ := HVP.out
                    exact (hv_pages hv POK.out (show 0 < 1024 by omega)).2.1)
                  have CBS := Lib.hid (beside_any Vb.out HN.out VOL.out (by have := MM.out; have := HM.out; have := H9.out; have := JH.out; omega) (dn pg k rt (j' + 1)) (Nat.lt_of_lt_of_le PGJ.out.lt HN.out) lo hi DOK.out HOK.out)
                  have x0 : w7.cell? ⟨C, 0, none⟩ = some (.int .i64 (dn pg k rt (j' + 1) : Nat)) := by rw [← MP.out.2]; exact KCb.out.cell 0
                  clear hj0
                  as_aux_lemma =>
                    go_wp2_with (first | (refine load_page rfl _ rfl X8 lo rfl KLb.out ?_) | (refine load_page rfl _ rfl X9 hi rfl KHb.out ?_))
                    refine CBS.out.mono ?_
                    rintro e w8 (⟨hful, rfl, hb⟩ | ⟨id, x, pg2, i2, i3, ho, rfl, hsv, hv2, hp2, hg⟩)
                    · have RES := Lib.hid (show InsP w B g b gs r N M n und pg st kd rts ow sn rt H lf ids R ff k c0 (.returned (.int .i64 140)) w8 from ⟨only_trans GGb.out (only_below hb (some b)), .inl ⟨rfl, HI'.out.full hful, _, (Vb.out.kept hb).mono (by have := MM.out; have := H9.out; have := JH.out; omega)⟩⟩)
                      clear hful hb CBS Kb KCb Vb PAb GGb KLb KHb x0
                      go_wp2
                      go_ret
                      exact RES.out
                    · have UP := Lib.hid (HI'.out.up (by have := H6.out; rw [HP.out] at this; exact this) PR.out hp2 i2 i3 ho hv2)
                      rw [LOE.out, HIE.out, HP.out] at hsv
                      have V8 := Lib.hid hsv
                      have GG8 := Lib.hid (only_trans GGb.out hg)
                      have K8 := Lib.hid (Kb.out.grown hg (fun e => EZ.out.2.2.2.1 (by injection e)))
                      have PA8 := Lib.hid (PAb.out.grown hg (fun e => HGB.out (by injection e)))
                      have CIN := Lib.hid (inner_any2 se id w8 SEP.out.2 (by omega) (by have := N1024.out; omega))
                      obtain ⟨c2, hc2⟩ : ∃ c2, c2 = inC se id := ⟨_, rfl⟩
                      have HC2 := Lib.hid (show c2 = inC (sepOf (pg (dn pg k rt (j' + 1)))) id from by rw [hc2, SEE.out, HP.out])
                      have C2S := Lib.hid (show c2.d.size ≤ maxLen from by
                        obtain ⟨-, -, -, h4, -⟩ := inC_facts se id SEP.out.2 (by omega) (by have := N1024.out; omega)
                        rw [hc2]; unfold maxLen; omega)
                      rw [← hc2] at CIN
                      rw [← HC2.out] at UP
                      clear hc2 i2 i3 ho hsv hv2 hp2 hg CBS Kb KCb Vb PAb GGb KLb KHb x0 DOK HOK j0b j0c
                      as_aux_lemma =>
                        go_wp2_with fail
                        refine CIN.out.mono ?_
                        rintro e w9 ⟨rfl, hb⟩
                        have K9 := Lib.hid (K8.out.kept hb); have V9 := Lib.hid (V8.out.kept hb); have PA9 := Lib.hid (PA8.out.kept hb)
                        have GG9 := Lib.hid (only_trans GG8.out (only_below hb (some b)))
                        clear hb K8 V8 PA8 GG8 CIN
                        have Ka := Lib.hid (ce_bk (s := c2.st) (d := c2.d) K9.out)
                        have Va := Lib.hid (V9.out.row EZ.out.2.2 #[.int .i64 c2.st, .string c2.d])
                        have PAa := Lib.hid (PA9.out.row (Ne.symm EZ.out.2.1) #[.int .i64 c2.st, .string c2.d])
                        have GGa := Lib.hid (only_setRow GG9.out EZ.out.1 #[.int .i64 c2.st, .string c2.d])
                        as_aux_lemma =>
                          go_upto_region 19 with (refine store_ce rfl _ _ rfl E c2.st c.st c2.d c.d rfl rfl K9.out ?_; generalize w9.setRow E #[.int .i64 c2.st, .string c2.d] = wa at *)
                          clear K9 V9 PA9 GG9
                          have jw : wrap64 (j' : Int) = (j' : Int) := by have := H9.out; have := JH.out; unfold wrap64; omega
                          go_wp2
                          go_roundw
                          case rel => exact ⟨j', c2, _, _, _, _, M' + 3, by first | rw [jw] | rfl, UP.out.1, Va.out, by have := MM.out; omega, UP.out.2, (fun i _ => rfl), Ka.out, PAa.out, GGa.out, C2S.out⟩
                          case measure => first | (rw [jw]; show ((j' : Int)).toNat < (((j' + 1 : Nat) : Int)).toNat; omega) | (show ((j' : Int)).toNat < (((j' + 1 : Nat) : Int)).toNat; omega)
        · obtain ⟨e1, e2, e3, e4, e5, e6, e7, e8⟩ := put_facts PND.out h6 THR.out CEL.out
          rw [e1]
          have OK := Lib.hid (show pp.ok from by rw [PPE.out]; exact node_ok_pg e2 (by have := POK.out.1; unfold Pg.head at this ⊢; rw [e5, e6, e7, e8]; exact this))
          have N6 := Lib.hid h6
          clear h6 e1 e2 e3 e4 e5 e6 e7 e8
          as_aux_lemma =>
            go_upto_region 7 with (refine store_page_new rfl _ _ rfl pp rfl rfl ?_; rw [← hQ]; clear hQ; generalize w3.alloc (.cells pp.cs 38) = w4 at *)
            have x0 : w4.cell? ⟨C, 0, none⟩ = some (.int .i64 (dn pg k rt j : Nat)) := by rw [← MP.out.2]; exact KC4.out.cell 0
            have CST := Lib.hid (sv_set V4.out (dn pg k rt j) (by have := PGJ.out.lt; have := HN.out; omega) pp OK.out (by have := MM.out; have := HM.out; have := H9.out; have := JH.out; omega))
            as_aux_lemma =>
              go_wp2_with (refine load_page rfl _ rfl Q pp rfl KQ4.out ?_)
              refine CST.out.mono ?_
              rintro e w5 ⟨rfl, hsv, hg⟩
              have RES := Lib.hid (HI'.out.done (w := w) (M := M) (by rw [← HP.out]; exact N6.out) VOL.out PR.out (by rw [← HP.out, ← PPE.out]; exact hsv) (by have := MM.out; have := H9.out; have := JH.out; omega) (only_trans GG4.out hg))
              clear hsv hg CST K4 V4 PA4 GG4 KC4 KQ4 x0
              go_wp2
              go_ret
              exact RES.out
end Go.Proofs.YtelbioooggnbiaaGreat
