/- The walk of the document's own Split. -/
import Derived.Test.YtedoechjjcbeeaaNodSplit2
import Derived.Test.YtedoechjjcbeeaaNodHeld
set_option linter.unusedVariables false
set_option linter.unusedSimpArgs false
namespace Go.Proofs.Ytedoechjjcbeeaa
open Go.RowKit

def splitLo (p : Pg) : Pg := if cnt p.c < 2 then Pg.zero else lowP p
def splitHi (p : Pg) : Pg := if cnt p.c < 2 then Pg.zero else highP p
def splitK (p : Pg) : ByteArray := if cnt p.c < 2 then ⟨#[]⟩ else sepOf p
theorem low_eq (p : Pg) (h : halfOf p ≤ 6) : (p.fill (upto p.c (halfOf p)) 6).cs = (lowP p).cs := by
  refine Pg.cs_eq ⟨rfl, rfl, rfl, rfl, fun q hq => ?_⟩
  simp only [Pg.fill, lowP, Pg.blit, Pg.clear, upto]
  repeat' split
  all_goals first | rfl | (exfalso; omega) | (congr 1; omega)
theorem high_eq (p : Pg) (h : halfOf p ≤ cnt p.c) (h6 : cnt p.c ≤ 6) : (p.fill (upto (fun q => p.c (halfOf p + q)) (cnt p.c - halfOf p)) 6).cs = (high0 p).cs := by
  refine Pg.cs_eq ⟨rfl, rfl, rfl, rfl, fun q hq => ?_⟩
  simp only [Pg.fill, high0, Pg.blit, Pg.clear, upto]
  repeat' split
  all_goals first | rfl | (exfalso; omega) | (congr 1; omega)
theorem held_slice {ops : Array Oper} {S : World → Prop} {o : Oper} {a : Act} (x : Operand) (lo hi : Option Operand) (ho : o.op = .slice 78 x lo hi none) (hw : Region.wanted o (yielded ops a.tmps) = true) (v vx : Value) (vl vh : Option Value)
    (hx : a.eval x = vx) (hl : lo.map a.eval = vl) (hh : hi.map a.eval = vh) (hr : ∀ w, (Instr.slice 78 vx vl vh none).run Try.prog w = .ok v w) : YieldsIf Try.prog ops S o v a := by
  have hel : Try.prog.elem 78 = 23 := by kernel_rfl
  subst hx hl hh
  refine .inl ⟨hw, fun w h => ?_⟩
  unfold execOp
  simp only [ho, Option.map_none, Sem.run_bind, run_sliceAt_slice w 78 _ _ _ _ (by rw [hel]; exact Try.underlying78), hr, Result.andThen_ok, Sem.run_pure]
set_option maxRecDepth 100000 in
set_option maxHeartbeats 1000000 in
theorem rsplit_bad (p : Pg) (w : World) (h : cnt p.c < 2) :
    Calls Try.prog 31 #[p.v] w fun e w' => e = .returned (.tuple #[Pg.zero.v, Pg.zero.v, .string ⟨#[]⟩, .int .i64 1]) ∧ Below w.heap.size w w' := by
  have CC := Lib.hid (fun w => cells_any p w)
  generalize cnt p.c = n at *
  have h2 : (n : Int) < 2 := by omega
  unfold Pg.v
  go_enter Try.func31, Try.ntmps31
  have k0 : Bk (((w.alloc (.cells p.cs 40)).alloc (.cells Pg.zero.cs 40)).alloc (.cells Pg.zero.cs 40)) w.heap.size 40 p.cs := ((Bk.new w _ _).alloc _).alloc _
  have y0 : Bk (((w.alloc (.cells p.cs 40)).alloc (.cells Pg.zero.cs 40)).alloc (.cells Pg.zero.cs 40)) (w.heap.size + 1) 40 Pg.zero.cs := (Bk.new2 w _ _ _).alloc _
  have z0 : Bk (((w.alloc (.cells p.cs 40)).alloc (.cells Pg.zero.cs 40)).alloc (.cells Pg.zero.cs 40)) (w.heap.size + 1 + 1) 40 Pg.zero.cs := Bk.new3 w _ _ _ _
  have b0 : Below w.heap.size w (((w.alloc (.cells p.cs 40)).alloc (.cells Pg.zero.cs 40)).alloc (.cells Pg.zero.cs 40)) := (((Below.refl _ _).alloc (Nat.le_refl _) _).alloc (by simp) _).alloc (by simp; omega) _
  have K0 := Lib.hid k0; have Y0 := Lib.hid y0; have Z0 := Lib.hid z0; have B0 := Lib.hid b0
  clear k0 y0 z0 b0
  go_wp2_with (refine load_page rfl (.tmp 1) rfl w.heap.size p rfl K0.out ?_)
  refine (CC.out _).mono ?_
  rintro e w2 ⟨la, lcap, rfl, hr4, hb2⟩
  have K2 := Lib.hid (K0.out.kept hb2); have Y2 := Lib.hid (Y0.out.kept hb2); have Z2 := Lib.hid (Z0.out.kept hb2)
  have B2 := Lib.hid (below_then B0.out hb2 B0.out.size)
  clear hb2 K0 Y0 Z0 B0 CC
  clear hr4
  have tokA : True := trivial
  go_wp2_with (first | (have _t := tokA; refine store_page rfl (.tmp 2) (.tmp 18) rfl (w.heap.size + 1) Pg.zero Pg.zero rfl rfl Y2.out ?_; clear tokA _t; have tokB : True := trivial) | (have _t := tokB; refine store_page rfl (.tmp 3) (.tmp 19) rfl (w.heap.size + 1 + 1) Pg.zero Pg.zero rfl rfl (row_far Z2.out (by omega)) ?_; clear tokB _t))
  refine bodyPost_ret (res4 rfl _ _ (w.heap.size + 1) (w.heap.size + 1 + 1) Pg.zero.cs Pg.zero.cs (row_far (row_bk Y2.out) (by omega)) (row_bk (q := Pg.zero) (row_far Z2.out (by omega))) rfl rfl rfl rfl) rfl ?_
  exact ⟨rfl, below_setRow (below_setRow B2.out (by omega) _) (by omega) _⟩
set_option maxRecDepth 100000 in
set_option maxHeartbeats 4000000 in
theorem rsplit_good (p : Pg) (w : World) (hs : Sz p.c) (h : 2 ≤ cnt p.c) :
    Calls Try.prog 31 #[p.v] w fun e w' => e = .returned (.tuple #[(lowP p).v, (highP p).v, .string (sepOf p), .int .i64 0]) ∧ Below w.heap.size w w' := by
  have CC := Lib.hid (fun w => cells_any p w)
  have hn := cnt_le p.c
  have hhf : halfOf p = (cnt p.c + 1) / 2 := rfl
  have hlow := low_eq p (by omega)
  have hhig := high_eq p (by omega) hn
  have hhp : highP p = if p.l = 0 then high0 p else (high0 p).set 0 ⟨(p.c (halfOf p)).st, dat ⟨#[]⟩ (p.c (halfOf p)).rst⟩ := rfl
  have hse : sepOf p = (p.c (halfOf p)).key := rfl
  have h0 : high0 p = p.clear.blit p.c 0 (halfOf p) (cnt p.c - halfOf p) := rfl
  generalize halfOf p = f at *
  have hf6 : f < 6 := by omega
  have hc0 : (high0 p).c 0 = p.c f := by
    rw [h0]; simp only [Pg.blit]; rw [if_pos (by omega)]; simp
  have ck := fun w => says_any (p.c f) w (hs f hf6)
  have cd := fun w => rdata_any ⟨#[]⟩ (p.c f).rst w (by decide) (by have := rst_size1 _ (hs f hf6); show 1 + 0 + _ ≤ maxLen; omega)
  rw [← hse] at ck
  have CK := Lib.hid ck; have CD := Lib.hid cd
  clear ck cd hs hse h0
  generalize cnt p.c = n at *
  have CW1 := Lib.hid (fun g cap w hg hc => with_any p g 0 f cap p.c w (by omega) hg hc)
  have CW2 := Lib.hid (fun g cap w hg hc => with_any p g (f * 2) (n - f) cap (fun q => p.c (f + q)) w (by omega) hg hc)
  unfold Pg.v at CW1 CW2
  rw [hlow] at CW1
  rw [hhig] at CW2
  generalize hL : lowP p = Lo at *
  generalize hX : highP p = Hi at *
  generalize hY : high0 p = H0 at *
  generalize sepOf p = se at *
  generalize hD : dat ⟨#[]⟩ (p.c f).rst = D at *
  have HP := Lib.hid hhp; have HC := Lib.hid hc0
  have h2 : ¬ (n : Int) < 2 := by omega
  obtain ⟨hh, hhe⟩ : ∃ hh, hh = n / 2 := ⟨_, rfl⟩
  have q1 : (n : Int) / 2 = (hh : Int) := by omega
  have q3 : (n : Int).tdiv 2 = (hh : Int) := by rw [Int.tdiv_eq_ediv_of_nonneg (by omega)]; exact q1
  have q4 : IntKind.i64.wrap ((n : Int) - (hh : Int)) = (f : Int) := by simp [IntKind.wrap, IntKind.signed, IntKind.bits]; omega
  have q5 : (n : Int) - (hh : Int) = (f : Int) := by omega
  have hhl : hh ≤ 3 := by omega
  have hfn : f ≤ n := by omega
  have hf1 : 1 ≤ n - f := by omega
  have hf0 : f < n := by omega
  clear hlow hhig hhp hc0 hhf h hL hX hY hD hhe
  unfold Ce.v at CK
  generalize hst : (p.c f).st = st at *
  generalize hdd : (p.c f).d = d at *
  generalize (p.c f).rst = rs at *
  generalize decide (p.c f).says = sy at *
  have HST := Lib.hid hst; have HDD := Lib.hid hdd
  clear hst hdd
  unfold Pg.v
  go_enter Try.func31, Try.ntmps31
  have k0 : Bk (((w.alloc (.cells p.cs 40)).alloc (.cells Pg.zero.cs 40)).alloc (.cells Pg.zero.cs 40)) w.heap.size 40 p.cs := ((Bk.new w _ _).alloc _).alloc _
  have y0 : Bk (((w.alloc (.cells p.cs 40)).alloc (.cells Pg.zero.cs 40)).alloc (.cells Pg.zero.cs 40)) (w.heap.size + 1) 40 Pg.zero.cs := (Bk.new2 w _ _ _).alloc _
  have z0 : Bk (((w.alloc (.cells p.cs 40)).alloc (.cells Pg.zero.cs 40)).alloc (.cells Pg.zero.cs 40)) (w.heap.size + 1 + 1) 40 Pg.zero.cs := Bk.new3 w _ _ _ _
  have b0 : Below w.heap.size w (((w.alloc (.cells p.cs 40)).alloc (.cells Pg.zero.cs 40)).alloc (.cells Pg.zero.cs 40)) := (((Below.refl _ _).alloc (Nat.le_refl _) _).alloc (by simp) _).alloc (by simp; omega) _
  have K0 := Lib.hid k0; have Y0 := Lib.hid y0; have Z0 := Lib.hid z0; have B0 := Lib.hid b0
  clear k0 y0 z0 b0
  go_wp2_with (refine load_page rfl (.tmp 1) rfl w.heap.size p rfl K0.out ?_)
  refine (CC.out _).mono ?_
  rintro e w2 ⟨la, lcap, rfl, hr4, hb2⟩
  have K2 := Lib.hid (K0.out.kept hb2); have Y2 := Lib.hid (Y0.out.kept hb2); have Z2 := Lib.hid (Z0.out.kept hb2)
  have B2 := Lib.hid (below_then B0.out hb2 B0.out.size)
  clear hb2 K0 Y0 Z0 B0 CC
  obtain ⟨gl, hgl, _, _⟩ := hr4.form (by omega)
  subst hgl
  have LC := Lib.hid (fun j (hj : j < n) => hr4.cell hj)
  have LG := Lib.hid (hr4.blk (k := gl) rfl).2
  obtain ⟨p1, s0, s1, hp1⟩ := cr_pre hr4 f hfn
  obtain ⟨p2, s00, s2, hp2⟩ := cr_suf hr4 f (f : Int) rfl hfn
  obtain ⟨g', e1, e2⟩ := hp1 (by omega)
  injection e2 with e2; injection e2 with e2
  subst e2 e1
  obtain ⟨g', e1, e2⟩ := hp2 (by omega)
  injection e2 with e2; injection e2 with e2
  subst e2 e1
  clear hp1 hp2 hr4
  have HLT := Lib.hid (show w.heap.size + 1 + 1 < w2.heap.size from Z2.out.lt)
  go_wp2_with fail
  obtain ⟨N0, hN0⟩ : ∃ N0, N0 = w2.heap.size := ⟨_, rfl⟩
  have HLT0 : Hid (w.heap.size + 1 + 1 < N0) := Lib.hid (by rw [hN0]; exact HLT.out)
  have LG0 : Hid (gl < N0) := Lib.hid (by rw [hN0]; exact LG.out)
  clear HLT LG
  have HLT := HLT0; have LG := LG0
  clear HLT0 LG0
  have HZw2 : Hid (N0 ≤ w2.heap.size) := Lib.hid (by omega)
  clear hN0
  have CLw2 : Hid (∀ k o, k < N0 → w2.cell? ⟨k, o, none⟩ = w2.cell? ⟨k, o, none⟩) := Lib.hid (fun _ _ _ => rfl)
  refine wp_region_held (S := fun w' => Bk w' w.heap.size 40 p.cs) (by kernel_rfl) ?_
  refine held_take (fuel := 6) (i := 0) 26 rfl rfl (by kernel_rfl) (by kernel_rfl) (by kernel_rfl) (fun _ _ _ h => h) (held_page _ rfl (by kernel_rfl) w.heap.size p rfl (fun w h => h)) K2.out.drew ?_
  refine held_take (fuel := 5) (i := 1) 27 rfl rfl (by kernel_rfl) (by kernel_rfl) (by kernel_rfl) (fun _ _ _ h => h) (held_move _ rfl (by kernel_rfl)) K2.out.drew ?_
  refine held_take (fuel := 4) (i := 2) 28 rfl rfl (by kernel_rfl) (by kernel_rfl) (by kernel_rfl) (fun _ _ _ h => h) (held_move _ rfl (by kernel_rfl)) K2.out.drew ?_
  simp only [Act.put, Act.eval, List.setIfInBounds_toArray, List.set_cons_succ, List.set_cons_zero]
  refine held_take (fuel := 3) (i := 3) 29 rfl rfl (by kernel_rfl) (by kernel_rfl) (by kernel_rfl) (fun _ _ _ h => h) (held_slice (.tmp 27) none (some (.tmp 28)) rfl (by kernel_rfl) _ (.slice (some ⟨gl, 0, none⟩) n lcap) none (some (.int .i64 (f : Int))) rfl rfl rfl (fun w => s1 w)) K2.out.drew ?_
  simp only [Act.put, Act.eval, List.setIfInBounds_toArray, List.set_cons_succ, List.set_cons_zero]
  refine wpAnyH_all (fuel := 2) (rs := [4, 5]) (by kernel_rfl) (by decide) ?_
  intro i hi
  have hi : i = 4 ∨ i = 5 := by simpa using hi
  have hlt := HLT.out
  rcases hi with rfl | rfl
  · refine held_call rfl (by kernel_rfl) 30 rfl 49 #[.agg p.cs, .slice (some ⟨gl, 0, none⟩) f s0] (by kernel_rfl) ?_
    refine (CW1.out gl _ _ (by show gl < w2.heap.size; have := LG.out; have := HZw2.out; omega) (fun j hj => by have h := LC.out j (by omega); have hg := LG.out; have e := CLw2.out gl (0 + j * 2) hg; have e2 := CLw2.out gl (0 + j * 2 + 1) hg; rw [Nat.zero_add] at *; exact ⟨e.trans h.1, e2.trans h.2⟩)).mono ?_
    rintro e v1 ⟨rfl, hb⟩
    refine ⟨_, rfl, K2.out.drew.kept hb, ?_⟩
    simp only [Act.put, Act.eval, List.setIfInBounds_toArray, List.set_cons_succ, List.set_cons_zero]
    refine held_ready (fuel := 1) 5 (by kernel_rfl) ?_
    refine held_run rfl (by kernel_rfl) 8 rfl (.pointer (some ⟨v1.heap.size, 0, none⟩)) (v1.alloc (.cells Pg.zero.cs 40)) (by kernel_rfl) ⟨(K2.out.drew.kept hb).alloc _, ?_⟩
    simp only [Act.put, Act.eval, List.setIfInBounds_toArray, List.set_cons_succ, List.set_cons_zero]
    refine held_ready (fuel := 0) 6 (by kernel_rfl) ?_
    have hzz : w2.heap.size ≤ v1.heap.size := hb.size
    refine held_store rfl (.tmp 8) (.tmp 30) rfl rfl (by kernel_rfl) v1.heap.size Lo Pg.zero rfl rfl (Bk.new v1 _ _) ⟨row_far ((K2.out.drew.kept hb).alloc _) (by have := HZw2.out; omega), ?_⟩
    refine wpAnyH_done (by kernel_rfl) ?_ _
    try simp only [Act.put, Act.eval, List.setIfInBounds_toArray, List.set_cons_succ, List.set_cons_zero]
    generalize hW : World.setRow _ v1.heap.size Lo.cs = x1
    have Kx1 : Hid (Bk x1 w.heap.size 40 p.cs) := Lib.hid (by rw [← hW]; exact row_far ((K2.out.drew.kept hb).alloc _) (by have := HZw2.out; have := K2.out.lt; omega))
    have Yx1 : Hid (Bk x1 (w.heap.size + 1) 40 Pg.zero.cs) := Lib.hid (by rw [← hW]; exact row_far ((Y2.out.drew.kept hb).alloc _) (by have := HZw2.out; have := Y2.out.lt; omega))
    have Xx1 : Hid (Bk x1 (w.heap.size + 1 + 1) 40 Pg.zero.cs) := Lib.hid (by rw [← hW]; exact row_far ((Z2.out.drew.kept hb).alloc _) (by have := HZw2.out; have := Z2.out.lt; omega))
    have Lx1 : Hid (Bk x1 v1.heap.size 40 Lo.cs) := Lib.hid (by rw [← hW]; exact row_bk (q := Pg.zero) (Bk.new v1 _ _))
    have Bx1 : Hid (Below w.heap.size w x1) := Lib.hid (by rw [← hW]; exact below_setRow ((below_then B2.out.drew hb B2.out.size).alloc (below_then B2.out.drew hb B2.out.size).size _) (by have := HZw2.out; omega) _)
    have HZx1 : Hid (N0 ≤ x1.heap.size) := Lib.hid (by rw [← hW]; have := HZw2.out; simp [World.setRow]; omega)
    have CLx1 : Hid (∀ k o, k < N0 → x1.cell? ⟨k, o, none⟩ = w2.cell? ⟨k, o, none⟩) := Lib.hid (fun k o hk => by
      rw [← hW]
      have h1 : k < w2.heap.size := by have := HZw2.out; omega
      have h2 : k < v1.heap.size := by omega
      rw [← CLw2.out k o hk]
      refine World.cell?_of_block ?_
      rw [setRow_other _ v1.heap.size k _ (by omega), Below.heap_alloc _ _ _ h2]
      exact hb.block k h1)
    have hG : N0 ≤ v1.heap.size := by have := HZw2.out; omega
    generalize v1.heap.size = G1 at *
    clear hW hb hzz
    have HGG1 := Lib.hid hG
    clear hG hlt
    go_wp2_with fail
    refine wp_region_held (S := fun w' => Bk w' w.heap.size 40 p.cs) (by kernel_rfl) ?_
    refine held_take (fuel := 6) (i := 0) 31 rfl rfl (by kernel_rfl) (by kernel_rfl) (by kernel_rfl) (fun _ _ _ h => h) (held_page _ rfl (by kernel_rfl) w.heap.size p rfl (fun w h => h)) Kx1.out.drew ?_
    refine held_take (fuel := 5) (i := 1) 32 rfl rfl (by kernel_rfl) (by kernel_rfl) (by kernel_rfl) (fun _ _ _ h => h) (held_move _ rfl (by kernel_rfl)) Kx1.out.drew ?_
    refine held_take (fuel := 4) (i := 2) 33 rfl rfl (by kernel_rfl) (by kernel_rfl) (by kernel_rfl) (fun _ _ _ h => h) (held_move _ rfl (by kernel_rfl)) Kx1.out.drew ?_
    simp only [Act.put, Act.eval, List.setIfInBounds_toArray, List.set_cons_succ, List.set_cons_zero]
    refine held_take (fuel := 3) (i := 3) 34 rfl rfl (by kernel_rfl) (by kernel_rfl) (by kernel_rfl) (fun _ _ _ h => h) (held_slice (.tmp 32) (some (.tmp 33)) none rfl (by kernel_rfl) _ (.slice (some ⟨gl, 0, none⟩) n lcap) (some (.int .i64 (f : Int))) none rfl rfl rfl (fun w => s2 w)) Kx1.out.drew ?_
    simp only [Act.put, Act.eval, List.setIfInBounds_toArray, List.set_cons_succ, List.set_cons_zero]
    refine wpAnyH_all (fuel := 2) (rs := [4, 5]) (by kernel_rfl) (by decide) ?_
    intro i hi
    have hi : i = 4 ∨ i = 5 := by simpa using hi
    have hlt := HLT.out
    rcases hi with rfl | rfl
    · refine held_call rfl (by kernel_rfl) 35 rfl 49 #[.agg p.cs, .slice (some ⟨gl, f * 2, none⟩) (n - f) s00] (by kernel_rfl) ?_
      refine (CW2.out gl _ _ (by show gl < x1.heap.size; have := LG.out; have := HZx1.out; omega) (fun j hj => by have h := LC.out (f + j) (by omega); have hg := LG.out; have e := CLx1.out gl (f * 2 + j * 2) hg; have e2 := CLx1.out gl (f * 2 + j * 2 + 1) hg; rw [show (f + j) * 2 = f * 2 + j * 2 by omega] at h; exact ⟨e.trans h.1, e2.trans h.2⟩)).mono ?_
      rintro e v2 ⟨rfl, hb⟩
      refine ⟨_, rfl, Kx1.out.drew.kept hb, ?_⟩
      simp only [Act.put, Act.eval, List.setIfInBounds_toArray, List.set_cons_succ, List.set_cons_zero]
      refine held_ready (fuel := 1) 5 (by kernel_rfl) ?_
      refine held_run rfl (by kernel_rfl) 9 rfl (.pointer (some ⟨v2.heap.size, 0, none⟩)) (v2.alloc (.cells Pg.zero.cs 40)) (by kernel_rfl) ⟨(Kx1.out.drew.kept hb).alloc _, ?_⟩
      simp only [Act.put, Act.eval, List.setIfInBounds_toArray, List.set_cons_succ, List.set_cons_zero]
      refine held_ready (fuel := 0) 6 (by kernel_rfl) ?_
      have hzz : x1.heap.size ≤ v2.heap.size := hb.size
      refine held_store rfl (.tmp 9) (.tmp 35) rfl rfl (by kernel_rfl) v2.heap.size H0 Pg.zero rfl rfl (Bk.new v2 _ _) ⟨row_far ((Kx1.out.drew.kept hb).alloc _) (by have := HZx1.out; omega), ?_⟩
      refine wpAnyH_done (by kernel_rfl) ?_ _
      try simp only [Act.put, Act.eval, List.setIfInBounds_toArray, List.set_cons_succ, List.set_cons_zero]
      generalize hW : World.setRow _ v2.heap.size H0.cs = x2
      have Kx2 : Hid (Bk x2 w.heap.size 40 p.cs) := Lib.hid (by rw [← hW]; exact row_far ((Kx1.out.drew.kept hb).alloc _) (by have := HZx1.out; have := Kx1.out.lt; omega))
      have Yx2 : Hid (Bk x2 (w.heap.size + 1) 40 Pg.zero.cs) := Lib.hid (by rw [← hW]; exact row_far ((Yx1.out.drew.kept hb).alloc _) (by have := HZx1.out; have := Yx1.out.lt; omega))
      have Xx2 : Hid (Bk x2 (w.heap.size + 1 + 1) 40 Pg.zero.cs) := Lib.hid (by rw [← hW]; exact row_far ((Xx1.out.drew.kept hb).alloc _) (by have := HZx1.out; have := Xx1.out.lt; omega))
      have Ax2 : Hid (Bk x2 G1 40 Lo.cs) := Lib.hid (by rw [← hW]; exact row_far ((Lx1.out.drew.kept hb).alloc _) (by have := HZx1.out; have := Lx1.out.lt; omega))
      have Lx2 : Hid (Bk x2 v2.heap.size 40 H0.cs) := Lib.hid (by rw [← hW]; exact row_bk (q := Pg.zero) (Bk.new v2 _ _))
      have Bx2 : Hid (Below w.heap.size w x2) := Lib.hid (by rw [← hW]; exact below_setRow ((below_then Bx1.out.drew hb Bx1.out.size).alloc (below_then Bx1.out.drew hb Bx1.out.size).size _) (by have := HZx1.out; omega) _)
      have HZx2 : Hid (N0 ≤ x2.heap.size) := Lib.hid (by rw [← hW]; have := HZx1.out; simp [World.setRow]; omega)
      have CLx2 : Hid (∀ k o, k < N0 → x2.cell? ⟨k, o, none⟩ = w2.cell? ⟨k, o, none⟩) := Lib.hid (fun k o hk => by
        rw [← hW]
        have h1 : k < x1.heap.size := by have := HZx1.out; omega
        have h2 : k < v2.heap.size := by omega
        rw [← CLx1.out k o hk]
        refine World.cell?_of_block ?_
        rw [setRow_other _ v2.heap.size k _ (by omega), Below.heap_alloc _ _ _ h2]
        exact hb.block k h1)
      have hG : N0 ≤ v2.heap.size := by have := HZx1.out; omega
      have hN : G1 < v2.heap.size := by have := Lx1.out.lt; omega
      generalize v2.heap.size = G2 at *
      clear hW hb hzz
      have HG1 := Lib.hid (show N0 ≤ G1 from HGG1.out); have HG2 := Lib.hid hG; have HN := Lib.hid hN
      obtain ⟨c0, c1⟩ := LC.out f hf0
      rw [HST.out] at c0
      rw [HDD.out] at c1
      have y0 := (CLx2.out gl (f * 2) LG.out).trans c0
      have y1 := (CLx2.out gl (f * 2 + 1) LG.out).trans c1
      clear c0 c1 hG hN hlt
      go_wp2_with fail
      refine (CK.out _).mono ?_
      rintro e w12 ⟨rfl, hb⟩
      have K12 := Lib.hid (Kx2.out.kept hb); have Y12 := Lib.hid (Yx2.out.kept hb); have X12 := Lib.hid (Xx2.out.kept hb); have A12 := Lib.hid (Ax2.out.kept hb); have C12 := Lib.hid (Lx2.out.kept hb)
      have B12 := Lib.hid (below_then Bx2.out hb Bx2.out.size)
      clear hb y0 y1 Kx2 Yx2 Xx2 Ax2 Lx2 Bx2 CK Kx1 Yx1 Xx1 Lx1 Bx1 K2 Y2 Z2 B2 CW1 CW2 s1 s2 CLx1 CLx2 CLw2 LC
      have x1' := (pg_head K12.out).2.1
      by_cases hl : p.l = 0
      · rw [hl] at x1'
        have HI := HP.out
        rw [if_pos hl] at HI
        subst HI
        go_wp2_with fail
        refine wp_region_held (S := fun w' => Bk w' G1 40 Lo.cs ∧ Bk w' G2 40 Hi.cs) (by kernel_rfl) ?_
        refine held_take (fuel := 6) (i := 0) 53 rfl rfl (by kernel_rfl) (by kernel_rfl) (by kernel_rfl) (fun _ _ _ h => h) (held_page _ rfl (by kernel_rfl) G1 Lo rfl (fun w h => h.1)) ⟨A12.out.drew, C12.out.drew⟩ ?_
        refine held_take (fuel := 5) (i := 1) 54 rfl rfl (by kernel_rfl) (by kernel_rfl) (by kernel_rfl) (fun _ _ _ h => h) (held_page _ rfl (by kernel_rfl) G2 Hi rfl (fun w h => h.2)) ⟨A12.out.drew, C12.out.drew⟩ ?_
        refine held_take (fuel := 4) (i := 2) 55 rfl rfl (by kernel_rfl) (by kernel_rfl) (by kernel_rfl) (fun _ _ _ h => h) (held_move _ rfl (by kernel_rfl)) ⟨A12.out.drew, C12.out.drew⟩ ?_
        simp only [Act.put, Act.eval, List.setIfInBounds_toArray, List.set_cons_succ, List.set_cons_zero]
        have hlt := HLT.out
        have g1 := HG1.out
        have g2 := HG2.out
        refine held_ready (fuel := 3) 3 (by kernel_rfl) ?_
        refine held_store rfl (.tmp 2) (.tmp 53) rfl rfl (by kernel_rfl) (w.heap.size + 1) Lo Pg.zero rfl rfl Y12.out.drew ⟨⟨row_far A12.out.drew (by omega), row_far C12.out.drew (by omega)⟩, ?_⟩
        refine held_ready (fuel := 2) 4 (by kernel_rfl) ?_
        refine held_store rfl (.tmp 3) (.tmp 54) rfl rfl (by kernel_rfl) (w.heap.size + 1 + 1) Hi Pg.zero rfl rfl (row_far X12.out.drew (by omega)) ⟨⟨row_far (row_far A12.out.drew (by omega)) (by omega), row_far (row_far C12.out.drew (by omega)) (by omega)⟩, ?_⟩
        refine held_take (fuel := 1) (i := 5) 4 rfl rfl (by kernel_rfl) (by kernel_rfl) (by kernel_rfl) (fun _ _ _ h => h) (held_assign _ rfl (by kernel_rfl)) ⟨row_far (row_far A12.out.drew (by omega)) (by omega), row_far (row_far C12.out.drew (by omega)) (by omega)⟩ ?_
        refine held_take (fuel := 0) (i := 6) 5 rfl rfl (by kernel_rfl) (by kernel_rfl) (by kernel_rfl) (fun _ _ _ h => h) (held_assign _ rfl (by kernel_rfl)) ⟨row_far (row_far A12.out.drew (by omega)) (by omega), row_far (row_far C12.out.drew (by omega)) (by omega)⟩ ?_
        refine wpAnyH_done (by kernel_rfl) ?_ _
        simp only [Act.put, Act.eval, List.setIfInBounds_toArray, List.set_cons_succ, List.set_cons_zero]
        generalize hW : World.setRow _ (w.heap.size + 1 + 1) Hi.cs = wF
        have fY : Bk wF (w.heap.size + 1) 40 Lo.cs := by rw [← hW]; exact (row_far (row_bk (q := Pg.zero) Y12.out.drew) (by omega))
        have fX : Bk wF (w.heap.size + 1 + 1) 40 Hi.cs := by rw [← hW]; exact (row_bk (q := Pg.zero) (row_far X12.out.drew (by omega)))
        have fB : Below w.heap.size w wF := by rw [← hW]; exact below_setRow (below_setRow B12.out.drew (by omega) _) (by omega) _
        have FY := Lib.hid fY; have FX := Lib.hid fX; have FB := Lib.hid fB
        clear fY fX fB hW
        go_wp2
        refine bodyPost_ret (res4 rfl _ _ (w.heap.size + 1) (w.heap.size + 1 + 1) Lo.cs Hi.cs FY.out FX.out rfl rfl rfl rfl) rfl ?_
        exact ⟨rfl, FB.out⟩
      · have hl' : (p.l != 0) = true := by simp [hl]
        have HI := HP.out
        rw [if_neg hl] at HI
        have HIH := Lib.hid HI
        clear HI hl
        go_wp2_with fail
        refine (CD.out _).mono ?_
        rintro e w13 ⟨rfl, hb⟩
        have Y13 := Lib.hid (Y12.out.kept hb); have X13 := Lib.hid (X12.out.kept hb); have A13 := Lib.hid (A12.out.kept hb); have C13 := Lib.hid (C12.out.kept hb)
        have B13 := Lib.hid (below_then B12.out hb B12.out.size)
        clear hb x1' K12 Y12 X12 A12 C12 B12 CD
        have v1 := (pg_cell C13.out 0 (by omega)).2
        have e1 := C13.out.fz 5
        simp only [Nat.zero_mul, Nat.add_zero, Nat.reduceAdd] at v1
        have c14 : Bk (w13.setCell ⟨G2, 5, none⟩ (.string D)) G2 40 Hi.cs := by
          have := C13.out.set 5 (.string D)
          rw [cs_set5, HC.out, HST.out, ← HIH.out] at this
          exact this
        have hlt0 := HLT.out; have g10 := HG1.out; have g20 := HG2.out; have gn0 := HN.out
        have C14 := Lib.hid c14
        have Y14 := Lib.hid (Y13.out.far (p := ⟨G2, 5, none⟩) (by simp; omega) (.string D)); have X14 := Lib.hid (X13.out.far (p := ⟨G2, 5, none⟩) (by simp; omega) (.string D)); have A14 := Lib.hid (A13.out.far (p := ⟨G2, 5, none⟩) (by simp; omega) (.string D))
        have B14 := Lib.hid (B13.out.setCell (p := ⟨G2, 5, none⟩) (by simp; omega) (.string D))
        clear c14 hlt0 g10 g20 gn0 Y13 X13 A13 C13 B13
        go_wp2_with fail
        refine wp_region_held (S := fun w' => Bk w' G1 40 Lo.cs ∧ Bk w' G2 40 Hi.cs) (by kernel_rfl) ?_
        refine held_take (fuel := 6) (i := 0) 53 rfl rfl (by kernel_rfl) (by kernel_rfl) (by kernel_rfl) (fun _ _ _ h => h) (held_page _ rfl (by kernel_rfl) G1 Lo rfl (fun w h => h.1)) ⟨A14.out.drew, C14.out.drew⟩ ?_
        refine held_take (fuel := 5) (i := 1) 54 rfl rfl (by kernel_rfl) (by kernel_rfl) (by kernel_rfl) (fun _ _ _ h => h) (held_page _ rfl (by kernel_rfl) G2 Hi rfl (fun w h => h.2)) ⟨A14.out.drew, C14.out.drew⟩ ?_
        refine held_take (fuel := 4) (i := 2) 55 rfl rfl (by kernel_rfl) (by kernel_rfl) (by kernel_rfl) (fun _ _ _ h => h) (held_move _ rfl (by kernel_rfl)) ⟨A14.out.drew, C14.out.drew⟩ ?_
        simp only [Act.put, Act.eval, List.setIfInBounds_toArray, List.set_cons_succ, List.set_cons_zero]
        have hlt := HLT.out
        have g1 := HG1.out
        have g2 := HG2.out
        refine held_ready (fuel := 3) 3 (by kernel_rfl) ?_
        refine held_store rfl (.tmp 2) (.tmp 53) rfl rfl (by kernel_rfl) (w.heap.size + 1) Lo Pg.zero rfl rfl Y14.out.drew ⟨⟨row_far A14.out.drew (by omega), row_far C14.out.drew (by omega)⟩, ?_⟩
        refine held_ready (fuel := 2) 4 (by kernel_rfl) ?_
        refine held_store rfl (.tmp 3) (.tmp 54) rfl rfl (by kernel_rfl) (w.heap.size + 1 + 1) Hi Pg.zero rfl rfl (row_far X14.out.drew (by omega)) ⟨⟨row_far (row_far A14.out.drew (by omega)) (by omega), row_far (row_far C14.out.drew (by omega)) (by omega)⟩, ?_⟩
        refine held_take (fuel := 1) (i := 5) 4 rfl rfl (by kernel_rfl) (by kernel_rfl) (by kernel_rfl) (fun _ _ _ h => h) (held_assign _ rfl (by kernel_rfl)) ⟨row_far (row_far A14.out.drew (by omega)) (by omega), row_far (row_far C14.out.drew (by omega)) (by omega)⟩ ?_
        refine held_take (fuel := 0) (i := 6) 5 rfl rfl (by kernel_rfl) (by kernel_rfl) (by kernel_rfl) (fun _ _ _ h => h) (held_assign _ rfl (by kernel_rfl)) ⟨row_far (row_far A14.out.drew (by omega)) (by omega), row_far (row_far C14.out.drew (by omega)) (by omega)⟩ ?_
        refine wpAnyH_done (by kernel_rfl) ?_ _
        simp only [Act.put, Act.eval, List.setIfInBounds_toArray, List.set_cons_succ, List.set_cons_zero]
        generalize hW : World.setRow _ (w.heap.size + 1 + 1) Hi.cs = wF
        have fY : Bk wF (w.heap.size + 1) 40 Lo.cs := by rw [← hW]; exact (row_far (row_bk (q := Pg.zero) Y14.out.drew) (by omega))
        have fX : Bk wF (w.heap.size + 1 + 1) 40 Hi.cs := by rw [← hW]; exact (row_bk (q := Pg.zero) (row_far X14.out.drew (by omega)))
        have fB : Below w.heap.size w wF := by rw [← hW]; exact below_setRow (below_setRow B14.out.drew (by omega) _) (by omega) _
        have FY := Lib.hid fY; have FX := Lib.hid fX; have FB := Lib.hid fB
        clear fY fX fB hW
        go_wp2
        refine bodyPost_ret (res4 rfl _ _ (w.heap.size + 1) (w.heap.size + 1 + 1) Lo.cs Hi.cs FY.out FX.out rfl rfl rfl rfl) rfl ?_
        exact ⟨rfl, FB.out⟩
    · refine held_run rfl (by kernel_rfl) 9 rfl (.pointer (some ⟨x1.heap.size, 0, none⟩)) (x1.drew.alloc (.cells Pg.zero.cs 40)) (by kernel_rfl) ⟨Kx1.out.drew.alloc _, ?_⟩
      simp only [Act.put, Act.eval, List.setIfInBounds_toArray, List.set_cons_succ, List.set_cons_zero]
      refine held_ready (fuel := 1) 4 (by kernel_rfl) ?_
      refine held_call rfl (by kernel_rfl) 35 rfl 49 #[.agg p.cs, .slice (some ⟨gl, f * 2, none⟩) (n - f) s00] (by kernel_rfl) ?_
      refine (CW2.out gl _ _ (by have := LG.out; have := HZx1.out; simp; omega) (fun j hj => by
        have h : x1.cell? ⟨gl, f * 2 + j * 2, none⟩ = some (.int .i64 (p.c (f + j)).st) ∧ x1.cell? ⟨gl, f * 2 + j * 2 + 1, none⟩ = some (.string (p.c (f + j)).d) := by have h := LC.out (f + j) (by omega); have hg := LG.out; have e := CLx1.out gl (f * 2 + j * 2) hg; have e2 := CLx1.out gl (f * 2 + j * 2 + 1) hg; rw [show (f + j) * 2 = f * 2 + j * 2 by omega] at h; exact ⟨e.trans h.1, e2.trans h.2⟩
        have hlg : gl < x1.drew.heap.size := by show gl < x1.heap.size; have := LG.out; have := HZx1.out; omega
        exact ⟨(World.cell?_of_block (Below.heap_alloc _ _ _ hlg)).trans h.1, (World.cell?_of_block (Below.heap_alloc _ _ _ hlg)).trans h.2⟩)).mono ?_
      rintro e v2 ⟨rfl, hb⟩
      refine ⟨_, rfl, (Kx1.out.drew.alloc _).kept hb, ?_⟩
      simp only [Act.put, Act.eval, List.setIfInBounds_toArray, List.set_cons_succ, List.set_cons_zero]
      refine held_ready (fuel := 0) 6 (by kernel_rfl) ?_
      have hzz : x1.heap.size + 1 ≤ v2.heap.size := by have := hb.size; simpa using this
      refine held_store rfl (.tmp 9) (.tmp 35) rfl rfl (by kernel_rfl) x1.heap.size H0 Pg.zero rfl rfl ((Bk.new x1.drew _ _).kept hb) ⟨row_far ((Kx1.out.drew.alloc _).kept hb) (by have := HZx1.out; omega), ?_⟩
      refine wpAnyH_done (by kernel_rfl) ?_ _
      try simp only [Act.put, Act.eval, List.setIfInBounds_toArray, List.set_cons_succ, List.set_cons_zero]
      generalize hW : World.setRow _ x1.heap.size H0.cs = x2
      have Kx2 : Hid (Bk x2 w.heap.size 40 p.cs) := Lib.hid (by rw [← hW]; exact row_far ((Kx1.out.drew.alloc _).kept hb) (by have := HZx1.out; have := Kx1.out.lt; omega))
      have Yx2 : Hid (Bk x2 (w.heap.size + 1) 40 Pg.zero.cs) := Lib.hid (by rw [← hW]; exact row_far ((Yx1.out.drew.alloc _).kept hb) (by have := HZx1.out; have := Yx1.out.lt; omega))
      have Xx2 : Hid (Bk x2 (w.heap.size + 1 + 1) 40 Pg.zero.cs) := Lib.hid (by rw [← hW]; exact row_far ((Xx1.out.drew.alloc _).kept hb) (by have := HZx1.out; have := Xx1.out.lt; omega))
      have Ax2 : Hid (Bk x2 G1 40 Lo.cs) := Lib.hid (by rw [← hW]; exact row_far ((Lx1.out.drew.alloc _).kept hb) (by have := HZx1.out; have := Lx1.out.lt; omega))
      have Lx2 : Hid (Bk x2 x1.heap.size 40 H0.cs) := Lib.hid (by rw [← hW]; exact row_bk (q := Pg.zero) ((Bk.new x1.drew _ _).kept hb))
      have Bx2 : Hid (Below w.heap.size w x2) := Lib.hid (by rw [← hW]; exact below_setRow (below_then (Bx1.out.drew.alloc Bx1.out.size _) hb (by have := Bx1.out.size; simp; omega)) (by have := HZx1.out; omega) _)
      have HZx2 : Hid (N0 ≤ x2.heap.size) := Lib.hid (by rw [← hW]; have := HZx1.out; simp [World.setRow]; omega)
      have CLx2 : Hid (∀ k o, k < N0 → x2.cell? ⟨k, o, none⟩ = w2.cell? ⟨k, o, none⟩) := Lib.hid (fun k o hk => by
        rw [← hW]
        have h1 : k < x1.heap.size := by have := HZx1.out; omega
        rw [← CLx1.out k o hk]
        refine World.cell?_of_block ?_
        rw [setRow_other _ x1.heap.size k _ (by omega)]
        exact (hb.block k (by simp; omega)).trans (Below.heap_alloc _ _ _ h1))
      have hG : N0 ≤ x1.heap.size := HZx1.out
      have hN : G1 < x1.heap.size := Lx1.out.lt
      generalize x1.heap.size = G2 at *
      clear hW hb hzz
      have HG1 := Lib.hid (show N0 ≤ G1 from HGG1.out); have HG2 := Lib.hid hG; have HN := Lib.hid hN
      obtain ⟨c0, c1⟩ := LC.out f hf0
      rw [HST.out] at c0
      rw [HDD.out] at c1
      have y0 := (CLx2.out gl (f * 2) LG.out).trans c0
      have y1 := (CLx2.out gl (f * 2 + 1) LG.out).trans c1
      clear c0 c1 hG hN hlt
      go_wp2_with fail
      refine (CK.out _).mono ?_
      rintro e w12 ⟨rfl, hb⟩
      have K12 := Lib.hid (Kx2.out.kept hb); have Y12 := Lib.hid (Yx2.out.kept hb); have X12 := Lib.hid (Xx2.out.kept hb); have A12 := Lib.hid (Ax2.out.kept hb); have C12 := Lib.hid (Lx2.out.kept hb)
      have B12 := Lib.hid (below_then Bx2.out hb Bx2.out.size)
      clear hb y0 y1 Kx2 Yx2 Xx2 Ax2 Lx2 Bx2 CK Kx1 Yx1 Xx1 Lx1 Bx1 K2 Y2 Z2 B2 CW1 CW2 s1 s2 CLx1 CLx2 CLw2 LC
      have x1' := (pg_head K12.out).2.1
      by_cases hl : p.l = 0
      · rw [hl] at x1'
        have HI := HP.out
        rw [if_pos hl] at HI
        subst HI
        go_wp2_with fail
        refine wp_region_held (S := fun w' => Bk w' G1 40 Lo.cs ∧ Bk w' G2 40 Hi.cs) (by kernel_rfl) ?_
        refine held_take (fuel := 6) (i := 0) 53 rfl rfl (by kernel_rfl) (by kernel_rfl) (by kernel_rfl) (fun _ _ _ h => h) (held_page _ rfl (by kernel_rfl) G1 Lo rfl (fun w h => h.1)) ⟨A12.out.drew, C12.out.drew⟩ ?_
        refine held_take (fuel := 5) (i := 1) 54 rfl rfl (by kernel_rfl) (by kernel_rfl) (by kernel_rfl) (fun _ _ _ h => h) (held_page _ rfl (by kernel_rfl) G2 Hi rfl (fun w h => h.2)) ⟨A12.out.drew, C12.out.drew⟩ ?_
        refine held_take (fuel := 4) (i := 2) 55 rfl rfl (by kernel_rfl) (by kernel_rfl) (by kernel_rfl) (fun _ _ _ h => h) (held_move _ rfl (by kernel_rfl)) ⟨A12.out.drew, C12.out.drew⟩ ?_
        simp only [Act.put, Act.eval, List.setIfInBounds_toArray, List.set_cons_succ, List.set_cons_zero]
        have hlt := HLT.out
        have g1 := HG1.out
        have g2 := HG2.out
        refine held_ready (fuel := 3) 3 (by kernel_rfl) ?_
        refine held_store rfl (.tmp 2) (.tmp 53) rfl rfl (by kernel_rfl) (w.heap.size + 1) Lo Pg.zero rfl rfl Y12.out.drew ⟨⟨row_far A12.out.drew (by omega), row_far C12.out.drew (by omega)⟩, ?_⟩
        refine held_ready (fuel := 2) 4 (by kernel_rfl) ?_
        refine held_store rfl (.tmp 3) (.tmp 54) rfl rfl (by kernel_rfl) (w.heap.size + 1 + 1) Hi Pg.zero rfl rfl (row_far X12.out.drew (by omega)) ⟨⟨row_far (row_far A12.out.drew (by omega)) (by omega), row_far (row_far C12.out.drew (by omega)) (by omega)⟩, ?_⟩
        refine held_take (fuel := 1) (i := 5) 4 rfl rfl (by kernel_rfl) (by kernel_rfl) (by kernel_rfl) (fun _ _ _ h => h) (held_assign _ rfl (by kernel_rfl)) ⟨row_far (row_far A12.out.drew (by omega)) (by omega), row_far (row_far C12.out.drew (by omega)) (by omega)⟩ ?_
        refine held_take (fuel := 0) (i := 6) 5 rfl rfl (by kernel_rfl) (by kernel_rfl) (by kernel_rfl) (fun _ _ _ h => h) (held_assign _ rfl (by kernel_rfl)) ⟨row_far (row_far A12.out.drew (by omega)) (by omega), row_far (row_far C12.out.drew (by omega)) (by omega)⟩ ?_
        refine wpAnyH_done (by kernel_rfl) ?_ _
        simp only [Act.put, Act.eval, List.setIfInBounds_toArray, List.set_cons_succ, List.set_cons_zero]
        generalize hW : World.setRow _ (w.heap.size + 1 + 1) Hi.cs = wF
        have fY : Bk wF (w.heap.size + 1) 40 Lo.cs := by rw [← hW]; exact (row_far (row_bk (q := Pg.zero) Y12.out.drew) (by omega))
        have fX : Bk wF (w.heap.size + 1 + 1) 40 Hi.cs := by rw [← hW]; exact (row_bk (q := Pg.zero) (row_far X12.out.drew (by omega)))
        have fB : Below w.heap.size w wF := by rw [← hW]; exact below_setRow (below_setRow B12.out.drew (by omega) _) (by omega) _
        have FY := Lib.hid fY; have FX := Lib.hid fX; have FB := Lib.hid fB
        clear fY fX fB hW
        go_wp2
        refine bodyPost_ret (res4 rfl _ _ (w.heap.size + 1) (w.heap.size + 1 + 1) Lo.cs Hi.cs FY.out FX.out rfl rfl rfl rfl) rfl ?_
        exact ⟨rfl, FB.out⟩
      · have hl' : (p.l != 0) = true := by simp [hl]
        have HI := HP.out
        rw [if_neg hl] at HI
        have HIH := Lib.hid HI
        clear HI hl
        go_wp2_with fail
        refine (CD.out _).mono ?_
        rintro e w13 ⟨rfl, hb⟩
        have Y13 := Lib.hid (Y12.out.kept hb); have X13 := Lib.hid (X12.out.kept hb); have A13 := Lib.hid (A12.out.kept hb); have C13 := Lib.hid (C12.out.kept hb)
        have B13 := Lib.hid (below_then B12.out hb B12.out.size)
        clear hb x1' K12 Y12 X12 A12 C12 B12 CD
        have v1 := (pg_cell C13.out 0 (by omega)).2
        have e1 := C13.out.fz 5
        simp only [Nat.zero_mul, Nat.add_zero, Nat.reduceAdd] at v1
        have c14 : Bk (w13.setCell ⟨G2, 5, none⟩ (.string D)) G2 40 Hi.cs := by
          have := C13.out.set 5 (.string D)
          rw [cs_set5, HC.out, HST.out, ← HIH.out] at this
          exact this
        have hlt0 := HLT.out; have g10 := HG1.out; have g20 := HG2.out; have gn0 := HN.out
        have C14 := Lib.hid c14
        have Y14 := Lib.hid (Y13.out.far (p := ⟨G2, 5, none⟩) (by simp; omega) (.string D)); have X14 := Lib.hid (X13.out.far (p := ⟨G2, 5, none⟩) (by simp; omega) (.string D)); have A14 := Lib.hid (A13.out.far (p := ⟨G2, 5, none⟩) (by simp; omega) (.string D))
        have B14 := Lib.hid (B13.out.setCell (p := ⟨G2, 5, none⟩) (by simp; omega) (.string D))
        clear c14 hlt0 g10 g20 gn0 Y13 X13 A13 C13 B13
        go_wp2_with fail
        refine wp_region_held (S := fun w' => Bk w' G1 40 Lo.cs ∧ Bk w' G2 40 Hi.cs) (by kernel_rfl) ?_
        refine held_take (fuel := 6) (i := 0) 53 rfl rfl (by kernel_rfl) (by kernel_rfl) (by kernel_rfl) (fun _ _ _ h => h) (held_page _ rfl (by kernel_rfl) G1 Lo rfl (fun w h => h.1)) ⟨A14.out.drew, C14.out.drew⟩ ?_
        refine held_take (fuel := 5) (i := 1) 54 rfl rfl (by kernel_rfl) (by kernel_rfl) (by kernel_rfl) (fun _ _ _ h => h) (held_page _ rfl (by kernel_rfl) G2 Hi rfl (fun w h => h.2)) ⟨A14.out.drew, C14.out.drew⟩ ?_
        refine held_take (fuel := 4) (i := 2) 55 rfl rfl (by kernel_rfl) (by kernel_rfl) (by kernel_rfl) (fun _ _ _ h => h) (held_move _ rfl (by kernel_rfl)) ⟨A14.out.drew, C14.out.drew⟩ ?_
        simp only [Act.put, Act.eval, List.setIfInBounds_toArray, List.set_cons_succ, List.set_cons_zero]
        have hlt := HLT.out
        have g1 := HG1.out
        have g2 := HG2.out
        refine held_ready (fuel := 3) 3 (by kernel_rfl) ?_
        refine held_store rfl (.tmp 2) (.tmp 53) rfl rfl (by kernel_rfl) (w.heap.size + 1) Lo Pg.zero rfl rfl Y14.out.drew ⟨⟨row_far A14.out.drew (by omega), row_far C14.out.drew (by omega)⟩, ?_⟩
        refine held_ready (fuel := 2) 4 (by kernel_rfl) ?_
        refine held_store rfl (.tmp 3) (.tmp 54) rfl rfl (by kernel_rfl) (w.heap.size + 1 + 1) Hi Pg.zero rfl rfl (row_far X14.out.drew (by omega)) ⟨⟨row_far (row_far A14.out.drew (by omega)) (by omega), row_far (row_far C14.out.drew (by omega)) (by omega)⟩, ?_⟩
        refine held_take (fuel := 1) (i := 5) 4 rfl rfl (by kernel_rfl) (by kernel_rfl) (by kernel_rfl) (fun _ _ _ h => h) (held_assign _ rfl (by kernel_rfl)) ⟨row_far (row_far A14.out.drew (by omega)) (by omega), row_far (row_far C14.out.drew (by omega)) (by omega)⟩ ?_
        refine held_take (fuel := 0) (i := 6) 5 rfl rfl (by kernel_rfl) (by kernel_rfl) (by kernel_rfl) (fun _ _ _ h => h) (held_assign _ rfl (by kernel_rfl)) ⟨row_far (row_far A14.out.drew (by omega)) (by omega), row_far (row_far C14.out.drew (by omega)) (by omega)⟩ ?_
        refine wpAnyH_done (by kernel_rfl) ?_ _
        simp only [Act.put, Act.eval, List.setIfInBounds_toArray, List.set_cons_succ, List.set_cons_zero]
        generalize hW : World.setRow _ (w.heap.size + 1 + 1) Hi.cs = wF
        have fY : Bk wF (w.heap.size + 1) 40 Lo.cs := by rw [← hW]; exact (row_far (row_bk (q := Pg.zero) Y14.out.drew) (by omega))
        have fX : Bk wF (w.heap.size + 1 + 1) 40 Hi.cs := by rw [← hW]; exact (row_bk (q := Pg.zero) (row_far X14.out.drew (by omega)))
        have fB : Below w.heap.size w wF := by rw [← hW]; exact below_setRow (below_setRow B14.out.drew (by omega) _) (by omega) _
        have FY := Lib.hid fY; have FX := Lib.hid fX; have FB := Lib.hid fB
        clear fY fX fB hW
        go_wp2
        refine bodyPost_ret (res4 rfl _ _ (w.heap.size + 1) (w.heap.size + 1 + 1) Lo.cs Hi.cs FY.out FX.out rfl rfl rfl rfl) rfl ?_
        exact ⟨rfl, FB.out⟩
  · refine held_run rfl (by kernel_rfl) 8 rfl (.pointer (some ⟨w2.heap.size, 0, none⟩)) (w2.drew.alloc (.cells Pg.zero.cs 40)) (by kernel_rfl) ⟨K2.out.drew.alloc _, ?_⟩
    simp only [Act.put, Act.eval, List.setIfInBounds_toArray, List.set_cons_succ, List.set_cons_zero]
    refine held_ready (fuel := 1) 4 (by kernel_rfl) ?_
    refine held_call rfl (by kernel_rfl) 30 rfl 49 #[.agg p.cs, .slice (some ⟨gl, 0, none⟩) f s0] (by kernel_rfl) ?_
    refine (CW1.out gl _ _ (by have := LG.out; have := HZw2.out; simp; omega) (fun j hj => by
      have h : w2.cell? ⟨gl, 0 + j * 2, none⟩ = some (.int .i64 (p.c j).st) ∧ w2.cell? ⟨gl, 0 + j * 2 + 1, none⟩ = some (.string (p.c j).d) := by have h := LC.out j (by omega); have hg := LG.out; have e := CLw2.out gl (0 + j * 2) hg; have e2 := CLw2.out gl (0 + j * 2 + 1) hg; rw [Nat.zero_add] at *; exact ⟨e.trans h.1, e2.trans h.2⟩
      have hlg : gl < w2.drew.heap.size := by show gl < w2.heap.size; have := LG.out; have := HZw2.out; omega
      exact ⟨(World.cell?_of_block (Below.heap_alloc _ _ _ hlg)).trans h.1, (World.cell?_of_block (Below.heap_alloc _ _ _ hlg)).trans h.2⟩)).mono ?_
    rintro e v1 ⟨rfl, hb⟩
    refine ⟨_, rfl, (K2.out.drew.alloc _).kept hb, ?_⟩
    simp only [Act.put, Act.eval, List.setIfInBounds_toArray, List.set_cons_succ, List.set_cons_zero]
    refine held_ready (fuel := 0) 6 (by kernel_rfl) ?_
    have hzz : w2.heap.size + 1 ≤ v1.heap.size := by have := hb.size; simpa using this
    refine held_store rfl (.tmp 8) (.tmp 30) rfl rfl (by kernel_rfl) w2.heap.size Lo Pg.zero rfl rfl ((Bk.new w2.drew _ _).kept hb) ⟨row_far ((K2.out.drew.alloc _).kept hb) (by have := HZw2.out; omega), ?_⟩
    refine wpAnyH_done (by kernel_rfl) ?_ _
    try simp only [Act.put, Act.eval, List.setIfInBounds_toArray, List.set_cons_succ, List.set_cons_zero]
    generalize hW : World.setRow _ w2.heap.size Lo.cs = x1
    have Kx1 : Hid (Bk x1 w.heap.size 40 p.cs) := Lib.hid (by rw [← hW]; exact row_far ((K2.out.drew.alloc _).kept hb) (by have := HZw2.out; have := K2.out.lt; omega))
    have Yx1 : Hid (Bk x1 (w.heap.size + 1) 40 Pg.zero.cs) := Lib.hid (by rw [← hW]; exact row_far ((Y2.out.drew.alloc _).kept hb) (by have := HZw2.out; have := Y2.out.lt; omega))
    have Xx1 : Hid (Bk x1 (w.heap.size + 1 + 1) 40 Pg.zero.cs) := Lib.hid (by rw [← hW]; exact row_far ((Z2.out.drew.alloc _).kept hb) (by have := HZw2.out; have := Z2.out.lt; omega))
    have Lx1 : Hid (Bk x1 w2.heap.size 40 Lo.cs) := Lib.hid (by rw [← hW]; exact row_bk (q := Pg.zero) ((Bk.new w2.drew _ _).kept hb))
    have Bx1 : Hid (Below w.heap.size w x1) := Lib.hid (by rw [← hW]; exact below_setRow (below_then (B2.out.drew.alloc B2.out.size _) hb (by have := B2.out.size; simp; omega)) (by have := HZw2.out; omega) _)
    have HZx1 : Hid (N0 ≤ x1.heap.size) := Lib.hid (by rw [← hW]; have := HZw2.out; simp [World.setRow]; omega)
    have CLx1 : Hid (∀ k o, k < N0 → x1.cell? ⟨k, o, none⟩ = w2.cell? ⟨k, o, none⟩) := Lib.hid (fun k o hk => by
      rw [← hW]
      have h1 : k < w2.heap.size := by have := HZw2.out; omega
      rw [← CLw2.out k o hk]
      refine World.cell?_of_block ?_
      rw [setRow_other _ w2.heap.size k _ (by omega)]
      exact (hb.block k (by simp; omega)).trans (Below.heap_alloc _ _ _ h1))
    have hG : N0 ≤ w2.heap.size := HZw2.out
    generalize w2.heap.size = G1 at *
    clear hW hb hzz
    have HGG1 := Lib.hid hG
    clear hG hlt
    go_wp2_with fail
    refine wp_region_held (S := fun w' => Bk w' w.heap.size 40 p.cs) (by kernel_rfl) ?_
    refine held_take (fuel := 6) (i := 0) 31 rfl rfl (by kernel_rfl) (by kernel_rfl) (by kernel_rfl) (fun _ _ _ h => h) (held_page _ rfl (by kernel_rfl) w.heap.size p rfl (fun w h => h)) Kx1.out.drew ?_
    refine held_take (fuel := 5) (i := 1) 32 rfl rfl (by kernel_rfl) (by kernel_rfl) (by kernel_rfl) (fun _ _ _ h => h) (held_move _ rfl (by kernel_rfl)) Kx1.out.drew ?_
    refine held_take (fuel := 4) (i := 2) 33 rfl rfl (by kernel_rfl) (by kernel_rfl) (by kernel_rfl) (fun _ _ _ h => h) (held_move _ rfl (by kernel_rfl)) Kx1.out.drew ?_
    simp only [Act.put, Act.eval, List.setIfInBounds_toArray, List.set_cons_succ, List.set_cons_zero]
    refine held_take (fuel := 3) (i := 3) 34 rfl rfl (by kernel_rfl) (by kernel_rfl) (by kernel_rfl) (fun _ _ _ h => h) (held_slice (.tmp 32) (some (.tmp 33)) none rfl (by kernel_rfl) _ (.slice (some ⟨gl, 0, none⟩) n lcap) (some (.int .i64 (f : Int))) none rfl rfl rfl (fun w => s2 w)) Kx1.out.drew ?_
    simp only [Act.put, Act.eval, List.setIfInBounds_toArray, List.set_cons_succ, List.set_cons_zero]
    refine wpAnyH_all (fuel := 2) (rs := [4, 5]) (by kernel_rfl) (by decide) ?_
    intro i hi
    have hi : i = 4 ∨ i = 5 := by simpa using hi
    have hlt := HLT.out
    rcases hi with rfl | rfl
    · refine held_call rfl (by kernel_rfl) 35 rfl 49 #[.agg p.cs, .slice (some ⟨gl, f * 2, none⟩) (n - f) s00] (by kernel_rfl) ?_
      refine (CW2.out gl _ _ (by show gl < x1.heap.size; have := LG.out; have := HZx1.out; omega) (fun j hj => by have h := LC.out (f + j) (by omega); have hg := LG.out; have e := CLx1.out gl (f * 2 + j * 2) hg; have e2 := CLx1.out gl (f * 2 + j * 2 + 1) hg; rw [show (f + j) * 2 = f * 2 + j * 2 by omega] at h; exact ⟨e.trans h.1, e2.trans h.2⟩)).mono ?_
      rintro e v2 ⟨rfl, hb⟩
      refine ⟨_, rfl, Kx1.out.drew.kept hb, ?_⟩
      simp only [Act.put, Act.eval, List.setIfInBounds_toArray, List.set_cons_succ, List.set_cons_zero]
      refine held_ready (fuel := 1) 5 (by kernel_rfl) ?_
      refine held_run rfl (by kernel_rfl) 9 rfl (.pointer (some ⟨v2.heap.size, 0, none⟩)) (v2.alloc (.cells Pg.zero.cs 40)) (by kernel_rfl) ⟨(Kx1.out.drew.kept hb).alloc _, ?_⟩
      simp only [Act.put, Act.eval, List.setIfInBounds_toArray, List.set_cons_succ, List.set_cons_zero]
      refine held_ready (fuel := 0) 6 (by kernel_rfl) ?_
      have hzz : x1.heap.size ≤ v2.heap.size := hb.size
      refine held_store rfl (.tmp 9) (.tmp 35) rfl rfl (by kernel_rfl) v2.heap.size H0 Pg.zero rfl rfl (Bk.new v2 _ _) ⟨row_far ((Kx1.out.drew.kept hb).alloc _) (by have := HZx1.out; omega), ?_⟩
      refine wpAnyH_done (by kernel_rfl) ?_ _
      try simp only [Act.put, Act.eval, List.setIfInBounds_toArray, List.set_cons_succ, List.set_cons_zero]
      generalize hW : World.setRow _ v2.heap.size H0.cs = x2
      have Kx2 : Hid (Bk x2 w.heap.size 40 p.cs) := Lib.hid (by rw [← hW]; exact row_far ((Kx1.out.drew.kept hb).alloc _) (by have := HZx1.out; have := Kx1.out.lt; omega))
      have Yx2 : Hid (Bk x2 (w.heap.size + 1) 40 Pg.zero.cs) := Lib.hid (by rw [← hW]; exact row_far ((Yx1.out.drew.kept hb).alloc _) (by have := HZx1.out; have := Yx1.out.lt; omega))
      have Xx2 : Hid (Bk x2 (w.heap.size + 1 + 1) 40 Pg.zero.cs) := Lib.hid (by rw [← hW]; exact row_far ((Xx1.out.drew.kept hb).alloc _) (by have := HZx1.out; have := Xx1.out.lt; omega))
      have Ax2 : Hid (Bk x2 G1 40 Lo.cs) := Lib.hid (by rw [← hW]; exact row_far ((Lx1.out.drew.kept hb).alloc _) (by have := HZx1.out; have := Lx1.out.lt; omega))
      have Lx2 : Hid (Bk x2 v2.heap.size 40 H0.cs) := Lib.hid (by rw [← hW]; exact row_bk (q := Pg.zero) (Bk.new v2 _ _))
      have Bx2 : Hid (Below w.heap.size w x2) := Lib.hid (by rw [← hW]; exact below_setRow ((below_then Bx1.out.drew hb Bx1.out.size).alloc (below_then Bx1.out.drew hb Bx1.out.size).size _) (by have := HZx1.out; omega) _)
      have HZx2 : Hid (N0 ≤ x2.heap.size) := Lib.hid (by rw [← hW]; have := HZx1.out; simp [World.setRow]; omega)
      have CLx2 : Hid (∀ k o, k < N0 → x2.cell? ⟨k, o, none⟩ = w2.cell? ⟨k, o, none⟩) := Lib.hid (fun k o hk => by
        rw [← hW]
        have h1 : k < x1.heap.size := by have := HZx1.out; omega
        have h2 : k < v2.heap.size := by omega
        rw [← CLx1.out k o hk]
        refine World.cell?_of_block ?_
        rw [setRow_other _ v2.heap.size k _ (by omega), Below.heap_alloc _ _ _ h2]
        exact hb.block k h1)
      have hG : N0 ≤ v2.heap.size := by have := HZx1.out; omega
      have hN : G1 < v2.heap.size := by have := Lx1.out.lt; omega
      generalize v2.heap.size = G2 at *
      clear hW hb hzz
      have HG1 := Lib.hid (show N0 ≤ G1 from HGG1.out); have HG2 := Lib.hid hG; have HN := Lib.hid hN
      obtain ⟨c0, c1⟩ := LC.out f hf0
      rw [HST.out] at c0
      rw [HDD.out] at c1
      have y0 := (CLx2.out gl (f * 2) LG.out).trans c0
      have y1 := (CLx2.out gl (f * 2 + 1) LG.out).trans c1
      clear c0 c1 hG hN hlt
      go_wp2_with fail
      refine (CK.out _).mono ?_
      rintro e w12 ⟨rfl, hb⟩
      have K12 := Lib.hid (Kx2.out.kept hb); have Y12 := Lib.hid (Yx2.out.kept hb); have X12 := Lib.hid (Xx2.out.kept hb); have A12 := Lib.hid (Ax2.out.kept hb); have C12 := Lib.hid (Lx2.out.kept hb)
      have B12 := Lib.hid (below_then Bx2.out hb Bx2.out.size)
      clear hb y0 y1 Kx2 Yx2 Xx2 Ax2 Lx2 Bx2 CK Kx1 Yx1 Xx1 Lx1 Bx1 K2 Y2 Z2 B2 CW1 CW2 s1 s2 CLx1 CLx2 CLw2 LC
      have x1' := (pg_head K12.out).2.1
      by_cases hl : p.l = 0
      · rw [hl] at x1'
        have HI := HP.out
        rw [if_pos hl] at HI
        subst HI
        go_wp2_with fail
        refine wp_region_held (S := fun w' => Bk w' G1 40 Lo.cs ∧ Bk w' G2 40 Hi.cs) (by kernel_rfl) ?_
        refine held_take (fuel := 6) (i := 0) 53 rfl rfl (by kernel_rfl) (by kernel_rfl) (by kernel_rfl) (fun _ _ _ h => h) (held_page _ rfl (by kernel_rfl) G1 Lo rfl (fun w h => h.1)) ⟨A12.out.drew, C12.out.drew⟩ ?_
        refine held_take (fuel := 5) (i := 1) 54 rfl rfl (by kernel_rfl) (by kernel_rfl) (by kernel_rfl) (fun _ _ _ h => h) (held_page _ rfl (by kernel_rfl) G2 Hi rfl (fun w h => h.2)) ⟨A12.out.drew, C12.out.drew⟩ ?_
        refine held_take (fuel := 4) (i := 2) 55 rfl rfl (by kernel_rfl) (by kernel_rfl) (by kernel_rfl) (fun _ _ _ h => h) (held_move _ rfl (by kernel_rfl)) ⟨A12.out.drew, C12.out.drew⟩ ?_
        simp only [Act.put, Act.eval, List.setIfInBounds_toArray, List.set_cons_succ, List.set_cons_zero]
        have hlt := HLT.out
        have g1 := HG1.out
        have g2 := HG2.out
        refine held_ready (fuel := 3) 3 (by kernel_rfl) ?_
        refine held_store rfl (.tmp 2) (.tmp 53) rfl rfl (by kernel_rfl) (w.heap.size + 1) Lo Pg.zero rfl rfl Y12.out.drew ⟨⟨row_far A12.out.drew (by omega), row_far C12.out.drew (by omega)⟩, ?_⟩
        refine held_ready (fuel := 2) 4 (by kernel_rfl) ?_
        refine held_store rfl (.tmp 3) (.tmp 54) rfl rfl (by kernel_rfl) (w.heap.size + 1 + 1) Hi Pg.zero rfl rfl (row_far X12.out.drew (by omega)) ⟨⟨row_far (row_far A12.out.drew (by omega)) (by omega), row_far (row_far C12.out.drew (by omega)) (by omega)⟩, ?_⟩
        refine held_take (fuel := 1) (i := 5) 4 rfl rfl (by kernel_rfl) (by kernel_rfl) (by kernel_rfl) (fun _ _ _ h => h) (held_assign _ rfl (by kernel_rfl)) ⟨row_far (row_far A12.out.drew (by omega)) (by omega), row_far (row_far C12.out.drew (by omega)) (by omega)⟩ ?_
        refine held_take (fuel := 0) (i := 6) 5 rfl rfl (by kernel_rfl) (by kernel_rfl) (by kernel_rfl) (fun _ _ _ h => h) (held_assign _ rfl (by kernel_rfl)) ⟨row_far (row_far A12.out.drew (by omega)) (by omega), row_far (row_far C12.out.drew (by omega)) (by omega)⟩ ?_
        refine wpAnyH_done (by kernel_rfl) ?_ _
        simp only [Act.put, Act.eval, List.setIfInBounds_toArray, List.set_cons_succ, List.set_cons_zero]
        generalize hW : World.setRow _ (w.heap.size + 1 + 1) Hi.cs = wF
        have fY : Bk wF (w.heap.size + 1) 40 Lo.cs := by rw [← hW]; exact (row_far (row_bk (q := Pg.zero) Y12.out.drew) (by omega))
        have fX : Bk wF (w.heap.size + 1 + 1) 40 Hi.cs := by rw [← hW]; exact (row_bk (q := Pg.zero) (row_far X12.out.drew (by omega)))
        have fB : Below w.heap.size w wF := by rw [← hW]; exact below_setRow (below_setRow B12.out.drew (by omega) _) (by omega) _
        have FY := Lib.hid fY; have FX := Lib.hid fX; have FB := Lib.hid fB
        clear fY fX fB hW
        go_wp2
        refine bodyPost_ret (res4 rfl _ _ (w.heap.size + 1) (w.heap.size + 1 + 1) Lo.cs Hi.cs FY.out FX.out rfl rfl rfl rfl) rfl ?_
        exact ⟨rfl, FB.out⟩
      · have hl' : (p.l != 0) = true := by simp [hl]
        have HI := HP.out
        rw [if_neg hl] at HI
        have HIH := Lib.hid HI
        clear HI hl
        go_wp2_with fail
        refine (CD.out _).mono ?_
        rintro e w13 ⟨rfl, hb⟩
        have Y13 := Lib.hid (Y12.out.kept hb); have X13 := Lib.hid (X12.out.kept hb); have A13 := Lib.hid (A12.out.kept hb); have C13 := Lib.hid (C12.out.kept hb)
        have B13 := Lib.hid (below_then B12.out hb B12.out.size)
        clear hb x1' K12 Y12 X12 A12 C12 B12 CD
        have v1 := (pg_cell C13.out 0 (by omega)).2
        have e1 := C13.out.fz 5
        simp only [Nat.zero_mul, Nat.add_zero, Nat.reduceAdd] at v1
        have c14 : Bk (w13.setCell ⟨G2, 5, none⟩ (.string D)) G2 40 Hi.cs := by
          have := C13.out.set 5 (.string D)
          rw [cs_set5, HC.out, HST.out, ← HIH.out] at this
          exact this
        have hlt0 := HLT.out; have g10 := HG1.out; have g20 := HG2.out; have gn0 := HN.out
        have C14 := Lib.hid c14
        have Y14 := Lib.hid (Y13.out.far (p := ⟨G2, 5, none⟩) (by simp; omega) (.string D)); have X14 := Lib.hid (X13.out.far (p := ⟨G2, 5, none⟩) (by simp; omega) (.string D)); have A14 := Lib.hid (A13.out.far (p := ⟨G2, 5, none⟩) (by simp; omega) (.string D))
        have B14 := Lib.hid (B13.out.setCell (p := ⟨G2, 5, none⟩) (by simp; omega) (.string D))
        clear c14 hlt0 g10 g20 gn0 Y13 X13 A13 C13 B13
        go_wp2_with fail
        refine wp_region_held (S := fun w' => Bk w' G1 40 Lo.cs ∧ Bk w' G2 40 Hi.cs) (by kernel_rfl) ?_
        refine held_take (fuel := 6) (i := 0) 53 rfl rfl (by kernel_rfl) (by kernel_rfl) (by kernel_rfl) (fun _ _ _ h => h) (held_page _ rfl (by kernel_rfl) G1 Lo rfl (fun w h => h.1)) ⟨A14.out.drew, C14.out.drew⟩ ?_
        refine held_take (fuel := 5) (i := 1) 54 rfl rfl (by kernel_rfl) (by kernel_rfl) (by kernel_rfl) (fun _ _ _ h => h) (held_page _ rfl (by kernel_rfl) G2 Hi rfl (fun w h => h.2)) ⟨A14.out.drew, C14.out.drew⟩ ?_
        refine held_take (fuel := 4) (i := 2) 55 rfl rfl (by kernel_rfl) (by kernel_rfl) (by kernel_rfl) (fun _ _ _ h => h) (held_move _ rfl (by kernel_rfl)) ⟨A14.out.drew, C14.out.drew⟩ ?_
        simp only [Act.put, Act.eval, List.setIfInBounds_toArray, List.set_cons_succ, List.set_cons_zero]
        have hlt := HLT.out
        have g1 := HG1.out
        have g2 := HG2.out
        refine held_ready (fuel := 3) 3 (by kernel_rfl) ?_
        refine held_store rfl (.tmp 2) (.tmp 53) rfl rfl (by kernel_rfl) (w.heap.size + 1) Lo Pg.zero rfl rfl Y14.out.drew ⟨⟨row_far A14.out.drew (by omega), row_far C14.out.drew (by omega)⟩, ?_⟩
        refine held_ready (fuel := 2) 4 (by kernel_rfl) ?_
        refine held_store rfl (.tmp 3) (.tmp 54) rfl rfl (by kernel_rfl) (w.heap.size + 1 + 1) Hi Pg.zero rfl rfl (row_far X14.out.drew (by omega)) ⟨⟨row_far (row_far A14.out.drew (by omega)) (by omega), row_far (row_far C14.out.drew (by omega)) (by omega)⟩, ?_⟩
        refine held_take (fuel := 1) (i := 5) 4 rfl rfl (by kernel_rfl) (by kernel_rfl) (by kernel_rfl) (fun _ _ _ h => h) (held_assign _ rfl (by kernel_rfl)) ⟨row_far (row_far A14.out.drew (by omega)) (by omega), row_far (row_far C14.out.drew (by omega)) (by omega)⟩ ?_
        refine held_take (fuel := 0) (i := 6) 5 rfl rfl (by kernel_rfl) (by kernel_rfl) (by kernel_rfl) (fun _ _ _ h => h) (held_assign _ rfl (by kernel_rfl)) ⟨row_far (row_far A14.out.drew (by omega)) (by omega), row_far (row_far C14.out.drew (by omega)) (by omega)⟩ ?_
        refine wpAnyH_done (by kernel_rfl) ?_ _
        simp only [Act.put, Act.eval, List.setIfInBounds_toArray, List.set_cons_succ, List.set_cons_zero]
        generalize hW : World.setRow _ (w.heap.size + 1 + 1) Hi.cs = wF
        have fY : Bk wF (w.heap.size + 1) 40 Lo.cs := by rw [← hW]; exact (row_far (row_bk (q := Pg.zero) Y14.out.drew) (by omega))
        have fX : Bk wF (w.heap.size + 1 + 1) 40 Hi.cs := by rw [← hW]; exact (row_bk (q := Pg.zero) (row_far X14.out.drew (by omega)))
        have fB : Below w.heap.size w wF := by rw [← hW]; exact below_setRow (below_setRow B14.out.drew (by omega) _) (by omega) _
        have FY := Lib.hid fY; have FX := Lib.hid fX; have FB := Lib.hid fB
        clear fY fX fB hW
        go_wp2
        refine bodyPost_ret (res4 rfl _ _ (w.heap.size + 1) (w.heap.size + 1 + 1) Lo.cs Hi.cs FY.out FX.out rfl rfl rfl rfl) rfl ?_
        exact ⟨rfl, FB.out⟩
    · refine held_run rfl (by kernel_rfl) 9 rfl (.pointer (some ⟨x1.heap.size, 0, none⟩)) (x1.drew.alloc (.cells Pg.zero.cs 40)) (by kernel_rfl) ⟨Kx1.out.drew.alloc _, ?_⟩
      simp only [Act.put, Act.eval, List.setIfInBounds_toArray, List.set_cons_succ, List.set_cons_zero]
      refine held_ready (fuel := 1) 4 (by kernel_rfl) ?_
      refine held_call rfl (by kernel_rfl) 35 rfl 49 #[.agg p.cs, .slice (some ⟨gl, f * 2, none⟩) (n - f) s00] (by kernel_rfl) ?_
      refine (CW2.out gl _ _ (by have := LG.out; have := HZx1.out; simp; omega) (fun j hj => by
        have h : x1.cell? ⟨gl, f * 2 + j * 2, none⟩ = some (.int .i64 (p.c (f + j)).st) ∧ x1.cell? ⟨gl, f * 2 + j * 2 + 1, none⟩ = some (.string (p.c (f + j)).d) := by have h := LC.out (f + j) (by omega); have hg := LG.out; have e := CLx1.out gl (f * 2 + j * 2) hg; have e2 := CLx1.out gl (f * 2 + j * 2 + 1) hg; rw [show (f + j) * 2 = f * 2 + j * 2 by omega] at h; exact ⟨e.trans h.1, e2.trans h.2⟩
        have hlg : gl < x1.drew.heap.size := by show gl < x1.heap.size; have := LG.out; have := HZx1.out; omega
        exact ⟨(World.cell?_of_block (Below.heap_alloc _ _ _ hlg)).trans h.1, (World.cell?_of_block (Below.heap_alloc _ _ _ hlg)).trans h.2⟩)).mono ?_
      rintro e v2 ⟨rfl, hb⟩
      refine ⟨_, rfl, (Kx1.out.drew.alloc _).kept hb, ?_⟩
      simp only [Act.put, Act.eval, List.setIfInBounds_toArray, List.set_cons_succ, List.set_cons_zero]
      refine held_ready (fuel := 0) 6 (by kernel_rfl) ?_
      have hzz : x1.heap.size + 1 ≤ v2.heap.size := by have := hb.size; simpa using this
      refine held_store rfl (.tmp 9) (.tmp 35) rfl rfl (by kernel_rfl) x1.heap.size H0 Pg.zero rfl rfl ((Bk.new x1.drew _ _).kept hb) ⟨row_far ((Kx1.out.drew.alloc _).kept hb) (by have := HZx1.out; omega), ?_⟩
      refine wpAnyH_done (by kernel_rfl) ?_ _
      try simp only [Act.put, Act.eval, List.setIfInBounds_toArray, List.set_cons_succ, List.set_cons_zero]
      generalize hW : World.setRow _ x1.heap.size H0.cs = x2
      have Kx2 : Hid (Bk x2 w.heap.size 40 p.cs) := Lib.hid (by rw [← hW]; exact row_far ((Kx1.out.drew.alloc _).kept hb) (by have := HZx1.out; have := Kx1.out.lt; omega))
      have Yx2 : Hid (Bk x2 (w.heap.size + 1) 40 Pg.zero.cs) := Lib.hid (by rw [← hW]; exact row_far ((Yx1.out.drew.alloc _).kept hb) (by have := HZx1.out; have := Yx1.out.lt; omega))
      have Xx2 : Hid (Bk x2 (w.heap.size + 1 + 1) 40 Pg.zero.cs) := Lib.hid (by rw [← hW]; exact row_far ((Xx1.out.drew.alloc _).kept hb) (by have := HZx1.out; have := Xx1.out.lt; omega))
      have Ax2 : Hid (Bk x2 G1 40 Lo.cs) := Lib.hid (by rw [← hW]; exact row_far ((Lx1.out.drew.alloc _).kept hb) (by have := HZx1.out; have := Lx1.out.lt; omega))
      have Lx2 : Hid (Bk x2 x1.heap.size 40 H0.cs) := Lib.hid (by rw [← hW]; exact row_bk (q := Pg.zero) ((Bk.new x1.drew _ _).kept hb))
      have Bx2 : Hid (Below w.heap.size w x2) := Lib.hid (by rw [← hW]; exact below_setRow (below_then (Bx1.out.drew.alloc Bx1.out.size _) hb (by have := Bx1.out.size; simp; omega)) (by have := HZx1.out; omega) _)
      have HZx2 : Hid (N0 ≤ x2.heap.size) := Lib.hid (by rw [← hW]; have := HZx1.out; simp [World.setRow]; omega)
      have CLx2 : Hid (∀ k o, k < N0 → x2.cell? ⟨k, o, none⟩ = w2.cell? ⟨k, o, none⟩) := Lib.hid (fun k o hk => by
        rw [← hW]
        have h1 : k < x1.heap.size := by have := HZx1.out; omega
        rw [← CLx1.out k o hk]
        refine World.cell?_of_block ?_
        rw [setRow_other _ x1.heap.size k _ (by omega)]
        exact (hb.block k (by simp; omega)).trans (Below.heap_alloc _ _ _ h1))
      have hG : N0 ≤ x1.heap.size := HZx1.out
      have hN : G1 < x1.heap.size := Lx1.out.lt
      generalize x1.heap.size = G2 at *
      clear hW hb hzz
      have HG1 := Lib.hid (show N0 ≤ G1 from HGG1.out); have HG2 := Lib.hid hG; have HN := Lib.hid hN
      obtain ⟨c0, c1⟩ := LC.out f hf0
      rw [HST.out] at c0
      rw [HDD.out] at c1
      have y0 := (CLx2.out gl (f * 2) LG.out).trans c0
      have y1 := (CLx2.out gl (f * 2 + 1) LG.out).trans c1
      clear c0 c1 hG hN hlt
      go_wp2_with fail
      refine (CK.out _).mono ?_
      rintro e w12 ⟨rfl, hb⟩
      have K12 := Lib.hid (Kx2.out.kept hb); have Y12 := Lib.hid (Yx2.out.kept hb); have X12 := Lib.hid (Xx2.out.kept hb); have A12 := Lib.hid (Ax2.out.kept hb); have C12 := Lib.hid (Lx2.out.kept hb)
      have B12 := Lib.hid (below_then Bx2.out hb Bx2.out.size)
      clear hb y0 y1 Kx2 Yx2 Xx2 Ax2 Lx2 Bx2 CK Kx1 Yx1 Xx1 Lx1 Bx1 K2 Y2 Z2 B2 CW1 CW2 s1 s2 CLx1 CLx2 CLw2 LC
      have x1' := (pg_head K12.out).2.1
      by_cases hl : p.l = 0
      · rw [hl] at x1'
        have HI := HP.out
        rw [if_pos hl] at HI
        subst HI
        go_wp2_with fail
        refine wp_region_held (S := fun w' => Bk w' G1 40 Lo.cs ∧ Bk w' G2 40 Hi.cs) (by kernel_rfl) ?_
        refine held_take (fuel := 6) (i := 0) 53 rfl rfl (by kernel_rfl) (by kernel_rfl) (by kernel_rfl) (fun _ _ _ h => h) (held_page _ rfl (by kernel_rfl) G1 Lo rfl (fun w h => h.1)) ⟨A12.out.drew, C12.out.drew⟩ ?_
        refine held_take (fuel := 5) (i := 1) 54 rfl rfl (by kernel_rfl) (by kernel_rfl) (by kernel_rfl) (fun _ _ _ h => h) (held_page _ rfl (by kernel_rfl) G2 Hi rfl (fun w h => h.2)) ⟨A12.out.drew, C12.out.drew⟩ ?_
        refine held_take (fuel := 4) (i := 2) 55 rfl rfl (by kernel_rfl) (by kernel_rfl) (by kernel_rfl) (fun _ _ _ h => h) (held_move _ rfl (by kernel_rfl)) ⟨A12.out.drew, C12.out.drew⟩ ?_
        simp only [Act.put, Act.eval, List.setIfInBounds_toArray, List.set_cons_succ, List.set_cons_zero]
        have hlt := HLT.out
        have g1 := HG1.out
        have g2 := HG2.out
        refine held_ready (fuel := 3) 3 (by kernel_rfl) ?_
        refine held_store rfl (.tmp 2) (.tmp 53) rfl rfl (by kernel_rfl) (w.heap.size + 1) Lo Pg.zero rfl rfl Y12.out.drew ⟨⟨row_far A12.out.drew (by omega), row_far C12.out.drew (by omega)⟩, ?_⟩
        refine held_ready (fuel := 2) 4 (by kernel_rfl) ?_
        refine held_store rfl (.tmp 3) (.tmp 54) rfl rfl (by kernel_rfl) (w.heap.size + 1 + 1) Hi Pg.zero rfl rfl (row_far X12.out.drew (by omega)) ⟨⟨row_far (row_far A12.out.drew (by omega)) (by omega), row_far (row_far C12.out.drew (by omega)) (by omega)⟩, ?_⟩
        refine held_take (fuel := 1) (i := 5) 4 rfl rfl (by kernel_rfl) (by kernel_rfl) (by kernel_rfl) (fun _ _ _ h => h) (held_assign _ rfl (by kernel_rfl)) ⟨row_far (row_far A12.out.drew (by omega)) (by omega), row_far (row_far C12.out.drew (by omega)) (by omega)⟩ ?_
        refine held_take (fuel := 0) (i := 6) 5 rfl rfl (by kernel_rfl) (by kernel_rfl) (by kernel_rfl) (fun _ _ _ h => h) (held_assign _ rfl (by kernel_rfl)) ⟨row_far (row_far A12.out.drew (by omega)) (by omega), row_far (row_far C12.out.drew (by omega)) (by omega)⟩ ?_
        refine wpAnyH_done (by kernel_rfl) ?_ _
        simp only [Act.put, Act.eval, List.setIfInBounds_toArray, List.set_cons_succ, List.set_cons_zero]
        generalize hW : World.setRow _ (w.heap.size + 1 + 1) Hi.cs = wF
        have fY : Bk wF (w.heap.size + 1) 40 Lo.cs := by rw [← hW]; exact (row_far (row_bk (q := Pg.zero) Y12.out.drew) (by omega))
        have fX : Bk wF (w.heap.size + 1 + 1) 40 Hi.cs := by rw [← hW]; exact (row_bk (q := Pg.zero) (row_far X12.out.drew (by omega)))
        have fB : Below w.heap.size w wF := by rw [← hW]; exact below_setRow (below_setRow B12.out.drew (by omega) _) (by omega) _
        have FY := Lib.hid fY; have FX := Lib.hid fX; have FB := Lib.hid fB
        clear fY fX fB hW
        go_wp2
        refine bodyPost_ret (res4 rfl _ _ (w.heap.size + 1) (w.heap.size + 1 + 1) Lo.cs Hi.cs FY.out FX.out rfl rfl rfl rfl) rfl ?_
        exact ⟨rfl, FB.out⟩
      · have hl' : (p.l != 0) = true := by simp [hl]
        have HI := HP.out
        rw [if_neg hl] at HI
        have HIH := Lib.hid HI
        clear HI hl
        go_wp2_with fail
        refine (CD.out _).mono ?_
        rintro e w13 ⟨rfl, hb⟩
        have Y13 := Lib.hid (Y12.out.kept hb); have X13 := Lib.hid (X12.out.kept hb); have A13 := Lib.hid (A12.out.kept hb); have C13 := Lib.hid (C12.out.kept hb)
        have B13 := Lib.hid (below_then B12.out hb B12.out.size)
        clear hb x1' K12 Y12 X12 A12 C12 B12 CD
        have v1 := (pg_cell C13.out 0 (by omega)).2
        have e1 := C13.out.fz 5
        simp only [Nat.zero_mul, Nat.add_zero, Nat.reduceAdd] at v1
        have c14 : Bk (w13.setCell ⟨G2, 5, none⟩ (.string D)) G2 40 Hi.cs := by
          have := C13.out.set 5 (.string D)
          rw [cs_set5, HC.out, HST.out, ← HIH.out] at this
          exact this
        have hlt0 := HLT.out; have g10 := HG1.out; have g20 := HG2.out; have gn0 := HN.out
        have C14 := Lib.hid c14
        have Y14 := Lib.hid (Y13.out.far (p := ⟨G2, 5, none⟩) (by simp; omega) (.string D)); have X14 := Lib.hid (X13.out.far (p := ⟨G2, 5, none⟩) (by simp; omega) (.string D)); have A14 := Lib.hid (A13.out.far (p := ⟨G2, 5, none⟩) (by simp; omega) (.string D))
        have B14 := Lib.hid (B13.out.setCell (p := ⟨G2, 5, none⟩) (by simp; omega) (.string D))
        clear c14 hlt0 g10 g20 gn0 Y13 X13 A13 C13 B13
        go_wp2_with fail
        refine wp_region_held (S := fun w' => Bk w' G1 40 Lo.cs ∧ Bk w' G2 40 Hi.cs) (by kernel_rfl) ?_
        refine held_take (fuel := 6) (i := 0) 53 rfl rfl (by kernel_rfl) (by kernel_rfl) (by kernel_rfl) (fun _ _ _ h => h) (held_page _ rfl (by kernel_rfl) G1 Lo rfl (fun w h => h.1)) ⟨A14.out.drew, C14.out.drew⟩ ?_
        refine held_take (fuel := 5) (i := 1) 54 rfl rfl (by kernel_rfl) (by kernel_rfl) (by kernel_rfl) (fun _ _ _ h => h) (held_page _ rfl (by kernel_rfl) G2 Hi rfl (fun w h => h.2)) ⟨A14.out.drew, C14.out.drew⟩ ?_
        refine held_take (fuel := 4) (i := 2) 55 rfl rfl (by kernel_rfl) (by kernel_rfl) (by kernel_rfl) (fun _ _ _ h => h) (held_move _ rfl (by kernel_rfl)) ⟨A14.out.drew, C14.out.drew⟩ ?_
        simp only [Act.put, Act.eval, List.setIfInBounds_toArray, List.set_cons_succ, List.set_cons_zero]
        have hlt := HLT.out
        have g1 := HG1.out
        have g2 := HG2.out
        refine held_ready (fuel := 3) 3 (by kernel_rfl) ?_
        refine held_store rfl (.tmp 2) (.tmp 53) rfl rfl (by kernel_rfl) (w.heap.size + 1) Lo Pg.zero rfl rfl Y14.out.drew ⟨⟨row_far A14.out.drew (by omega), row_far C14.out.drew (by omega)⟩, ?_⟩
        refine held_ready (fuel := 2) 4 (by kernel_rfl) ?_
        refine held_store rfl (.tmp 3) (.tmp 54) rfl rfl (by kernel_rfl) (w.heap.size + 1 + 1) Hi Pg.zero rfl rfl (row_far X14.out.drew (by omega)) ⟨⟨row_far (row_far A14.out.drew (by omega)) (by omega), row_far (row_far C14.out.drew (by omega)) (by omega)⟩, ?_⟩
        refine held_take (fuel := 1) (i := 5) 4 rfl rfl (by kernel_rfl) (by kernel_rfl) (by kernel_rfl) (fun _ _ _ h => h) (held_assign _ rfl (by kernel_rfl)) ⟨row_far (row_far A14.out.drew (by omega)) (by omega), row_far (row_far C14.out.drew (by omega)) (by omega)⟩ ?_
        refine held_take (fuel := 0) (i := 6) 5 rfl rfl (by kernel_rfl) (by kernel_rfl) (by kernel_rfl) (fun _ _ _ h => h) (held_assign _ rfl (by kernel_rfl)) ⟨row_far (row_far A14.out.drew (by omega)) (by omega), row_far (row_far C14.out.drew (by omega)) (by omega)⟩ ?_
        refine wpAnyH_done (by kernel_rfl) ?_ _
        simp only [Act.put, Act.eval, List.setIfInBounds_toArray, List.set_cons_succ, List.set_cons_zero]
        generalize hW : World.setRow _ (w.heap.size + 1 + 1) Hi.cs = wF
        have fY : Bk wF (w.heap.size + 1) 40 Lo.cs := by rw [← hW]; exact (row_far (row_bk (q := Pg.zero) Y14.out.drew) (by omega))
        have fX : Bk wF (w.heap.size + 1 + 1) 40 Hi.cs := by rw [← hW]; exact (row_bk (q := Pg.zero) (row_far X14.out.drew (by omega)))
        have fB : Below w.heap.size w wF := by rw [← hW]; exact below_setRow (below_setRow B14.out.drew (by omega) _) (by omega) _
        have FY := Lib.hid fY; have FX := Lib.hid fX; have FB := Lib.hid fB
        clear fY fX fB hW
        go_wp2
        refine bodyPost_ret (res4 rfl _ _ (w.heap.size + 1) (w.heap.size + 1 + 1) Lo.cs Hi.cs FY.out FX.out rfl rfl rfl rfl) rfl ?_
        exact ⟨rfl, FB.out⟩
theorem split_any (p : Pg) (w : World) (hs : Sz p.c) :
    Calls Try.prog 30 #[p.v] w fun e w' => e = .returned (.tuple #[(splitLo p).v, (splitHi p).v, .string (splitK p), .int .i64 (splitE p)]) ∧ Below w.heap.size w w' := by
  unfold splitLo splitHi splitK splitE
  by_cases h : cnt p.c < 2
  · rw [if_pos h, if_pos h, if_pos h, if_pos h]; exact split_bad p w h
  · rw [if_neg h, if_neg h, if_neg h, if_neg h]; exact split_good p w hs (by omega)
theorem rsplit_any (p : Pg) (w : World) (hs : Sz p.c) :
    Calls Try.prog 31 #[p.v] w fun e w' => e = .returned (.tuple #[(splitLo p).v, (splitHi p).v, .string (splitK p), .int .i64 (splitE p)]) ∧ Below w.heap.size w w' := by
  unfold splitLo splitHi splitK splitE
  by_cases h : cnt p.c < 2
  · rw [if_pos h, if_pos h, if_pos h, if_pos h]; exact rsplit_bad p w h
  · rw [if_neg h, if_neg h, if_neg h, if_neg h]; exact rsplit_good p w hs (by omega)
end Go.Proofs.Ytedoechjjcbeeaa
