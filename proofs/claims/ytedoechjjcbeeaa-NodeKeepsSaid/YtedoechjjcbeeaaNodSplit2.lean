/- The walk of package node: Split. -/
import Derived.Test.YtedoechjjcbeeaaNodSplit
set_option linter.unusedVariables false
set_option linter.unusedSimpArgs false
namespace Go.Proofs.Ytedoechjjcbeeaa
open Go.RowKit

theorem cs_set5 (p : Pg) (D : ByteArray) : p.cs.setIfInBounds 5 (.string D) = (p.set 0 ⟨(p.c 0).st, D⟩).cs := by simp [Pg.cs, Pg.set]
theorem rst_size1 (c : Ce) (h : c.d.size ≤ maxLen) : 1 + c.rst.size ≤ maxLen := by
  by_cases hs : c.says
  · rw [Ce.rst_yes hs, trest_size]
    have := hs.2.1
    unfold Tx at this
    omega
  · rw [Ce.rst_no hs]; show 1 + 0 ≤ maxLen; unfold maxLen; omega
def splitE (p : Pg) : Int := if cnt p.c < 2 then 1 else 0
set_option maxRecDepth 100000 in
set_option maxHeartbeats 1000000 in
theorem split_bad (p : Pg) (w : World) (h : cnt p.c < 2) :
    Calls Try.prog 30 #[p.v] w fun e w' => e = .returned (.tuple #[Pg.zero.v, Pg.zero.v, .string ⟨#[]⟩, .int .i64 1]) ∧ Below w.heap.size w w' := by
  have CC := Lib.hid (fun w => count_any p w)
  generalize cnt p.c = n at *
  have h2 : (n : Int) < 2 := by omega
  unfold Pg.v
  go_enter Try.func30, Try.ntmps30
  have k0 : Bk (((w.alloc (.cells p.cs 40)).alloc (.cells Pg.zero.cs 40)).alloc (.cells Pg.zero.cs 40)) w.heap.size 40 p.cs := ((Bk.new w _ _).alloc _).alloc _
  have y0 : Bk (((w.alloc (.cells p.cs 40)).alloc (.cells Pg.zero.cs 40)).alloc (.cells Pg.zero.cs 40)) (w.heap.size + 1) 40 Pg.zero.cs := (Bk.new2 w _ _ _).alloc _
  have z0 : Bk (((w.alloc (.cells p.cs 40)).alloc (.cells Pg.zero.cs 40)).alloc (.cells Pg.zero.cs 40)) (w.heap.size + 1 + 1) 40 Pg.zero.cs := Bk.new3 w _ _ _ _
  have b0 : Below w.heap.size w (((w.alloc (.cells p.cs 40)).alloc (.cells Pg.zero.cs 40)).alloc (.cells Pg.zero.cs 40)) := (((Below.refl _ _).alloc (Nat.le_refl _) _).alloc (by simp) _).alloc (by simp; omega) _
  have K0 := Lib.hid k0; have Y0 := Lib.hid y0; have Z0 := Lib.hid z0; have B0 := Lib.hid b0
  clear k0 y0 z0 b0
  go_wp2_with (refine load_page rfl (.tmp 1) rfl w.heap.size p rfl K0.out ?_)
  refine (CC.out _).mono ?_
  rintro e w2 ⟨rfl, hb2⟩
  have K2 := Lib.hid (K0.out.kept hb2); have Y2 := Lib.hid (Y0.out.kept hb2); have Z2 := Lib.hid (Z0.out.kept hb2)
  have B2 := Lib.hid (below_then B0.out hb2 B0.out.size)
  clear hb2 K0 Y0 Z0 B0 CC
  go_wp2_with (first | (refine store_page rfl (.tmp 2) (.tmp 17) rfl (w.heap.size + 1) Pg.zero Pg.zero rfl rfl Y2.out ?_) | (refine store_page rfl (.tmp 3) (.tmp 18) rfl (w.heap.size + 1 + 1) Pg.zero Pg.zero rfl rfl (row_far Z2.out (by omega)) ?_))
  refine bodyPost_ret (res4 rfl _ _ (w.heap.size + 1) (w.heap.size + 1 + 1) Pg.zero.cs Pg.zero.cs (row_far (row_bk Y2.out) (by omega)) (row_bk (q := Pg.zero) (row_far Z2.out (by omega))) rfl rfl rfl rfl) rfl ?_
  exact ⟨rfl, below_setRow (below_setRow B2.out (by omega) _) (by omega) _⟩
set_option maxRecDepth 100000 in
set_option maxHeartbeats 600000 in
theorem split_good (p : Pg) (w : World) (hs : Sz p.c) (h : 2 ≤ cnt p.c) :
    Calls Try.prog 30 #[p.v] w fun e w' => e = .returned (.tuple #[(lowP p).v, (highP p).v, .string (sepOf p), .int .i64 0]) ∧ Below w.heap.size w w' := by
  have CC := Lib.hid (fun w => count_any p w)
  have hn := cnt_le p.c
  have hlow : lowP p = p.clear.blit p.c 0 0 (halfOf p) := rfl
  have hhig : high0 p = p.clear.blit p.c 0 (halfOf p) (cnt p.c - halfOf p) := rfl
  have hhp : highP p = if p.l = 0 then high0 p else (high0 p).set 0 ⟨(p.c (halfOf p)).st, dat ⟨#[]⟩ (p.c (halfOf p)).rst⟩ := rfl
  have hse : sepOf p = (p.c (halfOf p)).key := rfl
  have hhf : halfOf p = (cnt p.c + 1) / 2 := rfl
  generalize halfOf p = f at *
  have hf6 : f < 6 := by omega
  have h0 : high0 p = p.clear.blit p.c 0 f (cnt p.c - f) := hhig
  have hc0 : (high0 p).c 0 = p.c f := by
    rw [h0]; simp only [Pg.blit]; rw [if_pos (by omega)]; simp
  have ck := fun w => key_any (p.c f) w (hs f hf6)
  have cd := fun w => data_any ⟨#[]⟩ (p.c f).rst w (by decide) (by have := rst_size1 _ (hs f hf6); show 1 + 0 + _ ≤ maxLen; omega)
  rw [← hse] at ck
  have CK := Lib.hid ck; have CD := Lib.hid cd
  clear ck cd hs hse
  generalize cnt p.c = n at *
  generalize hL : lowP p = Lo at *
  generalize hX : highP p = Hi at *
  generalize hY : high0 p = H0 at *
  generalize sepOf p = se at *
  generalize hD : dat ⟨#[]⟩ (p.c f).rst = D at *
  have HL := Lib.hid hlow; have HH := Lib.hid hhig; have HP := Lib.hid hhp; have HC := Lib.hid hc0; have HF := Lib.hid hhf
  have h2 : ¬ (n : Int) < 2 := by omega
  have q1 : ((n : Int) + 1) / 2 = (f : Int) := by omega
  have q2 : IntKind.i64.wrap ((n : Int) + 1) = (n : Int) + 1 := by simp [IntKind.wrap, IntKind.signed, IntKind.bits]; omega
  have q3 : ((n : Int) + 1).tdiv 2 = (f : Int) := by rw [Int.tdiv_eq_ediv_of_nonneg (by omega)]; exact q1
  have hfn : f ≤ n := by omega
  have hf1 : 1 ≤ n - f := by omega
  clear hlow hhig hhp hc0 hhf h hL hX hY hD h0
  unfold Ce.v at CK
  generalize hst : (p.c f).st = st at *
  generalize hdd : (p.c f).d = d at *
  generalize (p.c f).rst = rs at *
  generalize decide (p.c f).says = sy at *
  have HST := Lib.hid hst; have HDD := Lib.hid hdd
  clear hst hdd
  unfold Pg.v
  go_enter Try.func30, Try.ntmps30
  have k0 : Bk (((w.alloc (.cells p.cs 40)).alloc (.cells Pg.zero.cs 40)).alloc (.cells Pg.zero.cs 40)) w.heap.size 40 p.cs := ((Bk.new w _ _).alloc _).alloc _
  have y0 : Bk (((w.alloc (.cells p.cs 40)).alloc (.cells Pg.zero.cs 40)).alloc (.cells Pg.zero.cs 40)) (w.heap.size + 1) 40 Pg.zero.cs := (Bk.new2 w _ _ _).alloc _
  have z0 : Bk (((w.alloc (.cells p.cs 40)).alloc (.cells Pg.zero.cs 40)).alloc (.cells Pg.zero.cs 40)) (w.heap.size + 1 + 1) 40 Pg.zero.cs := Bk.new3 w _ _ _ _
  have b0 : Below w.heap.size w (((w.alloc (.cells p.cs 40)).alloc (.cells Pg.zero.cs 40)).alloc (.cells Pg.zero.cs 40)) := (((Below.refl _ _).alloc (Nat.le_refl _) _).alloc (by simp) _).alloc (by simp; omega) _
  have K0 := Lib.hid k0; have Y0 := Lib.hid y0; have Z0 := Lib.hid z0; have B0 := Lib.hid b0
  clear k0 y0 z0 b0
  go_wp2_with (refine load_page rfl (.tmp 1) rfl w.heap.size p rfl K0.out ?_)
  refine (CC.out _).mono ?_
  rintro e w2 ⟨rfl, hb2⟩
  have K2 := Lib.hid (K0.out.kept hb2); have Y2 := Lib.hid (Y0.out.kept hb2); have Z2 := Lib.hid (Z0.out.kept hb2)
  have B2 := Lib.hid (below_then B0.out hb2 B0.out.size)
  clear hb2 K0 Y0 Z0 B0 CC
  trace "T1"
  have g8 : Bk ((w2.alloc (.cells Pg.zero.cs 40)).alloc (.cells Pg.zero.cs 40)) w2.heap.size 40 Pg.zero.cs := (Bk.new w2 _ _).alloc _
  have g9 : Bk ((w2.alloc (.cells Pg.zero.cs 40)).alloc (.cells Pg.zero.cs 40)) (w2.heap.size + 1) 40 Pg.zero.cs := Bk.new2 w2 _ _ _
  have Z8 := Lib.hid g8; have Z9 := Lib.hid g9
  have K5 := Lib.hid ((K2.out.alloc (.cells Pg.zero.cs 40)).alloc (.cells Pg.zero.cs 40))
  have Y5 := Lib.hid ((Y2.out.alloc (.cells Pg.zero.cs 40)).alloc (.cells Pg.zero.cs 40))
  have X5 := Lib.hid ((Z2.out.alloc (.cells Pg.zero.cs 40)).alloc (.cells Pg.zero.cs 40))
  have hz2 := B2.out.size
  have l2 := K2.out.lt; have ly := Y2.out.lt; have lz := Z2.out.lt
  have B5 := Lib.hid ((B2.out.alloc hz2 (.cells Pg.zero.cs 40)).alloc (by simp; omega) (.cells Pg.zero.cs 40))
  have LT := Lib.hid (And.intro l2 (And.intro ly lz))
  clear g8 g9 l2 ly lz hz2
  obtain ⟨l2, ly, lz⟩ := LT.out
  have m1 : Bk (((w2.alloc (.cells Pg.zero.cs 40)).alloc (.cells Pg.zero.cs 40)).setRow w2.heap.size p.cs) (w2.heap.size + 1) 40 Pg.zero.cs := row_far Z9.out (by omega)
  have m2 : Bk ((((w2.alloc (.cells Pg.zero.cs 40)).alloc (.cells Pg.zero.cs 40)).setRow w2.heap.size p.cs).setRow (w2.heap.size + 1) p.cs) w2.heap.size 40 p.cs := row_far (row_bk (q := Pg.zero) Z8.out) (by omega)
  have m3 : Bk (((((w2.alloc (.cells Pg.zero.cs 40)).alloc (.cells Pg.zero.cs 40)).setRow w2.heap.size p.cs).setRow (w2.heap.size + 1) p.cs).setRow w2.heap.size p.clear.cs) (w2.heap.size + 1) 40 p.cs := row_far (row_bk (q := Pg.zero) m1) (by omega)
  have M1 := Lib.hid m1; have M2 := Lib.hid m2; have M3 := Lib.hid m3
  clear m1 m2 m3 l2 ly lz
  have tokA : True := trivial
  go_wp2_with (first | (have _t := tokA; refine load_page rfl (.tmp 1) rfl w.heap.size p rfl K2.out ?_; clear _t) | (have _t := tokA; refine store_page rfl (.tmp 8) (.tmp 22) rfl w2.heap.size p Pg.zero rfl rfl Z8.out ?_; clear tokA _t; have tokB : True := trivial) | (have _t := tokB; refine store_page rfl (.tmp 9) (.tmp 23) rfl (w2.heap.size + 1) p Pg.zero rfl rfl M1.out ?_; clear tokB _t; have tokC : True := trivial) | (have _t := tokC; refine store_clear rfl (.tmp 25) (.tmp 24) rfl w2.heap.size p rfl rfl M2.out ?_; clear tokC _t; have tokD : True := trivial) | (have _t := tokD; refine store_clear rfl (.tmp 27) (.tmp 26) rfl (w2.heap.size + 1) p rfl rfl M3.out ?_; clear tokD _t))
  go_frame
  obtain ⟨l2, ly, lz⟩ := LT.out
  have hz2 := B2.out.size
  have k9 := row_far (g := w2.heap.size + 1) (cs := p.clear.cs) (row_far (g := w2.heap.size) (cs := p.clear.cs) (row_far (g := w2.heap.size + 1) (cs := p.cs) (row_far (g := w2.heap.size) (cs := p.cs) K5.out (by omega)) (by omega)) (by omega)) (by omega)
  have y9 := row_far (g := w2.heap.size + 1) (cs := p.clear.cs) (row_far (g := w2.heap.size) (cs := p.clear.cs) (row_far (g := w2.heap.size + 1) (cs := p.cs) (row_far (g := w2.heap.size) (cs := p.cs) Y5.out (by omega)) (by omega)) (by omega)) (by omega)
  have x9 := row_far (g := w2.heap.size + 1) (cs := p.clear.cs) (row_far (g := w2.heap.size) (cs := p.clear.cs) (row_far (g := w2.heap.size + 1) (cs := p.cs) (row_far (g := w2.heap.size) (cs := p.cs) X5.out (by omega)) (by omega)) (by omega)) (by omega)
  have a9 := row_far (g := w2.heap.size + 1) (cs := p.clear.cs) (row_bk (p := p.clear) M2.out) (by omega)
  have c9 := row_bk (p := p.clear) M3.out
  have b9 := below_setRow (below_setRow (below_setRow (below_setRow B5.out hz2 p.cs) (show w.heap.size ≤ w2.heap.size + 1 by omega) p.cs) hz2 p.clear.cs) (show w.heap.size ≤ w2.heap.size + 1 by omega) p.clear.cs
  have K9 := Lib.hid k9; have Y9 := Lib.hid y9; have X9 := Lib.hid x9; have A9 := Lib.hid a9; have C9 := Lib.hid c9; have B9 := Lib.hid b9
  clear k9 y9 x9 a9 c9 b9 K5 Y5 X5 M1 M2 M3 Z8 Z9 B5 l2 ly lz hz2
  generalize hG : w2.heap.size = G at *
  have HZ2 := Lib.hid (show w.heap.size ≤ G by have := B2.out.size; omega)
  clear hG
  generalize hw9 : World.setRow _ (G + 1) p.clear.cs = w9
  have K9 : Hid (Bk w9 w.heap.size 40 p.cs) := Lib.hid (by rw [← hw9]; exact K9.out)
  have Y9 : Hid (Bk w9 (w.heap.size + 1) 40 Pg.zero.cs) := Lib.hid (by rw [← hw9]; exact Y9.out)
  have X9 : Hid (Bk w9 (w.heap.size + 1 + 1) 40 Pg.zero.cs) := Lib.hid (by rw [← hw9]; exact X9.out)
  have A9 : Hid (Bk w9 G 40 p.clear.cs) := Lib.hid (by rw [← hw9]; exact A9.out)
  have C9 : Hid (Bk w9 (G + 1) 40 p.clear.cs) := Lib.hid (by rw [← hw9]; exact C9.out)
  have B9 : Hid (Below w.heap.size w w9) := Lib.hid (by rw [← hw9]; exact B9.out)
  clear hw9
  have HLT := Lib.hid (show w.heap.size + 1 + 1 < G from LT.out.2.2)
  clear LT B2 K2 Y2 Z2
  have s1 := fun wx => slice_all G wx
  have s2 := fun wx => slice_h w.heap.size f (by omega) wx
  obtain ⟨w10, hcp, k10, g10, z10⟩ := run_copy_page w9.drew (some ⟨G, 4, none⟩) (some ⟨w.heap.size, 4, none⟩) 6 6 f 6 G w.heap.size p.clear p 0 0 f A9.out.drew K9.out.drew (by simp [Nat.min_def]; omega) (by omega) (by omega) (fun h => ⟨rfl, rfl⟩)
  rw [← HL.out] at k10
  have G10 := Lib.hid g10; have A10 := Lib.hid k10
  clear k10 g10 z10
  go_region
  have K10 := Lib.hid (K9.out.drew.grown G10.out (by have := HLT.out; simp; omega)); have Y10 := Lib.hid (Y9.out.drew.grown G10.out (by have := HLT.out; simp; omega))
  have X10 := Lib.hid (X9.out.drew.grown G10.out (by have := HLT.out; simp; omega)); have C10 := Lib.hid (C9.out.drew.grown G10.out (by simp))
  have B10 := Lib.hid (below_grow B9.out.drew G10.out (fun k hk => by injection hk with hk; have := HLT.out; omega) B9.out.size)
  clear hcp s1 s2 K9 Y9 X9 A9 C9 B9 G10
  go_wp2_with fail
  have s1 := fun wx => slice_all (G + 1) wx
  have s2 := fun wx => slice_lh w.heap.size f n hfn hn (f : Int) (n : Int) rfl rfl wx
  rw [if_neg (show ¬ 6 = f by omega)] at s2
  obtain ⟨m, hm⟩ : ∃ m, m = n - f := ⟨_, rfl⟩
  rw [← hm] at s2
  generalize 6 - f = q6 at s2
  obtain ⟨w11, hcp, k11, g11, z11⟩ := run_copy_page w10.drew (some ⟨G + 1, 4, none⟩) (some ⟨w.heap.size, 4 + f * 2, none⟩) 6 6 m q6 (G + 1) w.heap.size p.clear p 0 f m C10.out.drew K10.out.drew (by simp [Nat.min_def]; omega) (by omega) (by omega) (fun h => ⟨rfl, rfl⟩)
  rw [hm, ← HH.out] at k11
  have G11 := Lib.hid g11; have C11 := Lib.hid k11; have HM := Lib.hid hm
  clear k11 g11 z11 hm
  go_region
  have K11 := Lib.hid (K10.out.drew.grown G11.out (by have := HLT.out; simp; omega)); have Y11 := Lib.hid (Y10.out.drew.grown G11.out (by have := HLT.out; simp; omega))
  have X11 := Lib.hid (X10.out.drew.grown G11.out (by have := HLT.out; simp; omega)); have A11 := Lib.hid (A10.out.drew.grown G11.out (by simp))
  have B11 := Lib.hid (below_grow B10.out.drew G11.out (fun k hk => by injection hk with hk; have := HLT.out; omega) B10.out.size)
  clear hcp s1 s2 K10 Y10 X10 A10 C10 B10 G11 HM
  obtain ⟨v0, v1⟩ := pg_cell C11.out 0 (by omega)
  rw [HC.out, HST.out] at v0
  rw [HC.out, HDD.out] at v1
  simp only [Nat.zero_mul, Nat.add_zero, Nat.reduceAdd] at v0 v1
  go_wp2_with fail
  refine (CK.out _).mono ?_
  rintro e w12 ⟨rfl, hb⟩
  have K12 := Lib.hid (K11.out.kept hb); have Y12 := Lib.hid (Y11.out.kept hb); have X12 := Lib.hid (X11.out.kept hb); have A12 := Lib.hid (A11.out.kept hb); have C12 := Lib.hid (C11.out.kept hb)
  have B12 := Lib.hid (below_then B11.out hb B11.out.size)
  clear hb v0 v1 K11 Y11 X11 A11 C11 B11 CK
  have x1 := (pg_head K12.out).2.1
  by_cases hl : p.l = 0
  · rw [hl] at x1
    have HI := HP.out
    rw [if_pos hl] at HI
    subst HI
    go_wp2_with fail
    refine wp_region_held (S := fun w' => Bk w' G 40 Lo.cs ∧ Bk w' (G + 1) 40 Hi.cs) (by kernel_rfl) ?_
    refine held_take (fuel := 6) (i := 0) 57 rfl rfl (by kernel_rfl) (by kernel_rfl) (by kernel_rfl) (fun _ _ _ h => h) (held_page _ rfl (by kernel_rfl) G Lo rfl (fun w h => h.1)) ⟨A12.out.drew, C12.out.drew⟩ ?_
    refine held_take (fuel := 5) (i := 1) 58 rfl rfl (by kernel_rfl) (by kernel_rfl) (by kernel_rfl) (fun _ _ _ h => h) (held_page _ rfl (by kernel_rfl) (G + 1) Hi rfl (fun w h => h.2)) ⟨A12.out.drew, C12.out.drew⟩ ?_
    refine held_take (fuel := 4) (i := 2) 59 rfl rfl (by kernel_rfl) (by kernel_rfl) (by kernel_rfl) (fun _ _ _ h => h) (held_move _ rfl (by kernel_rfl)) ⟨A12.out.drew, C12.out.drew⟩ ?_
    simp only [Act.put, List.setIfInBounds_toArray, List.set_cons_succ, List.set_cons_zero]
    have hlt := HLT.out
    refine wpAnyH_all (fuel := 3) (rs := [3]) (by kernel_rfl) (by decide) ?_
    intro i hi
    obtain rfl : i = 3 := by simpa using hi
    refine held_store rfl _ _ rfl rfl (by kernel_rfl) (w.heap.size + 1) Lo Pg.zero rfl rfl Y12.out.drew ⟨⟨row_far A12.out.drew (by omega), row_far C12.out.drew (by omega)⟩, ?_⟩
    refine wpAnyH_all (fuel := 2) (rs := [4]) (by kernel_rfl) (by decide) ?_
    intro i hi
    obtain rfl : i = 4 := by simpa using hi
    refine held_store rfl _ _ rfl rfl (by kernel_rfl) (w.heap.size + 1 + 1) Hi Pg.zero rfl rfl (row_far X12.out.drew (by omega)) ⟨⟨row_far (row_far A12.out.drew (by omega)) (by omega), row_far (row_far C12.out.drew (by omega)) (by omega)⟩, ?_⟩
    refine held_take (fuel := 1) (i := 5) 4 rfl rfl (by kernel_rfl) (by kernel_rfl) (by kernel_rfl) (fun _ _ _ h => h) (held_assign _ rfl (by kernel_rfl)) ⟨row_far (row_far A12.out.drew (by omega)) (by omega), row_far (row_far C12.out.drew (by omega)) (by omega)⟩ ?_
    refine held_take (fuel := 0) (i := 6) 5 rfl rfl (by kernel_rfl) (by kernel_rfl) (by kernel_rfl) (fun _ _ _ h => h) (held_assign _ rfl (by kernel_rfl)) ⟨row_far (row_far A12.out.drew (by omega)) (by omega), row_far (row_far C12.out.drew (by omega)) (by omega)⟩ ?_
    refine wpAnyH_done (by kernel_rfl) ?_ _
    simp only [Act.put, Act.eval, List.setIfInBounds_toArray, List.set_cons_succ, List.set_cons_zero]
    generalize hW : World.setRow _ (w.heap.size + 1 + 1) Hi.cs = wF
    have fY : Bk wF (w.heap.size + 1) 40 Lo.cs := by rw [← hW]; exact (row_far (row_bk (q := Pg.zero) Y12.out.drew) (by omega))
    have fX : Bk wF (w.heap.size + 1 + 1) 40 Hi.cs := by rw [← hW]; exact (row_bk (q := Pg.zero) (row_far X12.out.drew (by omega)))
    have fB : Below w.heap.size w wF := by rw [← hW]; exact below_setRow (below_setRow B12.out.drew (by omega) _) (by omega) _
    have FY := Lib.hid fY; have FX := Lib.hid fX; have FB := Lib.hid fB
    clear fY fX fB hW
    go_wp2
    refine bodyPost_ret (res4 rfl _ _ (w.heap.size + 1) (w.heap.size + 1 + 1) Lo.cs Hi.cs FY.out FX.out rfl rfl rfl rfl) rfl ?_
    exact ⟨rfl, FB.out⟩
  · have hl' : (p.l != 0) = true := by simp [hl]
    have HI := HP.out
    rw [if_neg hl] at HI
    have HIH := Lib.hid HI
    clear HI hl
    go_wp2_with fail
    refine (CD.out _).mono ?_
    rintro e w13 ⟨rfl, hb⟩
    have Y13 := Lib.hid (Y12.out.kept hb); have X13 := Lib.hid (X12.out.kept hb); have A13 := Lib.hid (A12.out.kept hb); have C13 := Lib.hid (C12.out.kept hb)
    have B13 := Lib.hid (below_then B12.out hb B12.out.size)
    clear hb x1 K12 Y12 X12 A12 C12 B12 CD
    have v1 := (pg_cell C13.out 0 (by omega)).2
    have e1 := C13.out.fz 5
    simp only [Nat.zero_mul, Nat.add_zero, Nat.reduceAdd] at v1
    have c14 : Bk (w13.setCell ⟨G + 1, 5, none⟩ (.string D)) (G + 1) 40 Hi.cs := by
      have := C13.out.set 5 (.string D)
      rw [cs_set5, HC.out, HST.out, ← HIH.out] at this
      exact this
    have hlt0 := HLT.out
    have C14 := Lib.hid c14
    have Y14 := Lib.hid (Y13.out.far (p := ⟨G + 1, 5, none⟩) (by simp; omega) (.string D)); have X14 := Lib.hid (X13.out.far (p := ⟨G + 1, 5, none⟩) (by simp; omega) (.string D)); have A14 := Lib.hid (A13.out.far (p := ⟨G + 1, 5, none⟩) (by simp) (.string D))
    have B14 := Lib.hid (B13.out.setCell (p := ⟨G + 1, 5, none⟩) (by simp; omega) (.string D))
    clear c14 hlt0 Y13 X13 A13 C13 B13
    go_wp2_with fail
    refine wp_region_held (S := fun w' => Bk w' G 40 Lo.cs ∧ Bk w' (G + 1) 40 Hi.cs) (by kernel_rfl) ?_
    refine held_take (fuel := 6) (i := 0) 57 rfl rfl (by kernel_rfl) (by kernel_rfl) (by kernel_rfl) (fun _ _ _ h => h) (held_page _ rfl (by kernel_rfl) G Lo rfl (fun w h => h.1)) ⟨A14.out.drew, C14.out.drew⟩ ?_
    refine held_take (fuel := 5) (i := 1) 58 rfl rfl (by kernel_rfl) (by kernel_rfl) (by kernel_rfl) (fun _ _ _ h => h) (held_page _ rfl (by kernel_rfl) (G + 1) Hi rfl (fun w h => h.2)) ⟨A14.out.drew, C14.out.drew⟩ ?_
    refine held_take (fuel := 4) (i := 2) 59 rfl rfl (by kernel_rfl) (by kernel_rfl) (by kernel_rfl) (fun _ _ _ h => h) (held_move _ rfl (by kernel_rfl)) ⟨A14.out.drew, C14.out.drew⟩ ?_
    simp only [Act.put, List.setIfInBounds_toArray, List.set_cons_succ, List.set_cons_zero]
    have hlt := HLT.out
    refine wpAnyH_all (fuel := 3) (rs := [3]) (by kernel_rfl) (by decide) ?_
    intro i hi
    obtain rfl : i = 3 := by simpa using hi
    refine held_store rfl _ _ rfl rfl (by kernel_rfl) (w.heap.size + 1) Lo Pg.zero rfl rfl Y14.out.drew ⟨⟨row_far A14.out.drew (by omega), row_far C14.out.drew (by omega)⟩, ?_⟩
    refine wpAnyH_all (fuel := 2) (rs := [4]) (by kernel_rfl) (by decide) ?_
    intro i hi
    obtain rfl : i = 4 := by simpa using hi
    refine held_store rfl _ _ rfl rfl (by kernel_rfl) (w.heap.size + 1 + 1) Hi Pg.zero rfl rfl (row_far X14.out.drew (by omega)) ⟨⟨row_far (row_far A14.out.drew (by omega)) (by omega), row_far (row_far C14.out.drew (by omega)) (by omega)⟩, ?_⟩
    refine held_take (fuel := 1) (i := 5) 4 rfl rfl (by kernel_rfl) (by kernel_rfl) (by kernel_rfl) (fun _ _ _ h => h) (held_assign _ rfl (by kernel_rfl)) ⟨row_far (row_far A14.out.drew (by omega)) (by omega), row_far (row_far C14.out.drew (by omega)) (by omega)⟩ ?_
    refine held_take (fuel := 0) (i := 6) 5 rfl rfl (by kernel_rfl) (by kernel_rfl) (by kernel_rfl) (fun _ _ _ h => h) (held_assign _ rfl (by kernel_rfl)) ⟨row_far (row_far A14.out.drew (by omega)) (by omega), row_far (row_far C14.out.drew (by omega)) (by omega)⟩ ?_
    refine wpAnyH_done (by kernel_rfl) ?_ _
    simp only [Act.put, Act.eval, List.setIfInBounds_toArray, List.set_cons_succ, List.set_cons_zero]
    generalize hW : World.setRow _ (w.heap.size + 1 + 1) Hi.cs = wF
    have fY : Bk wF (w.heap.size + 1) 40 Lo.cs := by rw [← hW]; exact (row_far (row_bk (q := Pg.zero) Y14.out.drew) (by omega))
    have fX : Bk wF (w.heap.size + 1 + 1) 40 Hi.cs := by rw [← hW]; exact (row_bk (q := Pg.zero) (row_far X14.out.drew (by omega)))
    have fB : Below w.heap.size w wF := by rw [← hW]; exact below_setRow (below_setRow B14.out.drew (by omega) _) (by omega) _
    have FY := Lib.hid fY; have FX := Lib.hid fX; have FB := Lib.hid fB
    clear fY fX fB hW
    go_wp2
    refine bodyPost_ret (res4 rfl _ _ (w.heap.size + 1) (w.heap.size + 1 + 1) Lo.cs Hi.cs FY.out FX.out rfl rfl rfl rfl) rfl ?_
    exact ⟨rfl, FB.out⟩
end Go.Proofs.Ytedoechjjcbeeaa
