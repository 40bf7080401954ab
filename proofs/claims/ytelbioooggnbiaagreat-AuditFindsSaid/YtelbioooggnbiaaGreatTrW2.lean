/- Layer 16: root, load, isKey, ghost. Layer 16: the way down, as a row of steps of the call's own. Layer 16: steps in memory; find, live, change. Layer 16: find, live, change. Layer 16, plain: what the rows of an index tell of a key; a cell replaced. -/
import Derived.Test.YtelbioooggnbiaaGreatTrIx
import Derived.Test.YtelbioooggnbiaaGreatMemX
import Derived.Deep.AppendLies
import Derived.Great.BuildSlice
set_option linter.unusedVariables false
set_option linter.unusedSimpArgs false
namespace Go.Proofs.YtelbioooggnbiaaGreat
open Go.RowKit Go.Maps

/-- A volume with an index: store sn. -/
structure Tv (pg : Nat → Pg) (n : Nat) (st : Nat → Int) (kd rt : Nat → Nat) (ow : Nat → Option Int) (sn H : Nat) (lf ids : List Nat) (R : List (ByteArray × Ce)) (ff : Prop) : Prop where
  vol : Vol pg n st kd rt ow
  s1 : 1 ≤ sn ∧ sn ≤ 6
  st : st (sn - 1) = 1
  kd : kd (sn - 1) = 2 ∨ kd (sn - 1) = 3
  ix : Ix pg n ow sn (rt (sn - 1)) H lf ids R ff
theorem ok_sz {p : Pg} (h : p.ok) : Sz p.c := fun i hi => by
  unfold maxLen
  rcases h.2 i hi with ⟨h1, h2⟩ | ⟨h1, h2⟩
  · rw [h2]; show (0 : Nat) ≤ _; omega
  · omega
set_option maxRecDepth 100000 in
set_option maxHeartbeats 4000000 in
theorem root_any {w : World} {B g b gs r N M n : Nat} {und pg : Nat → Pg} {st : Nat → Int} {kd rt : Nat → Nat} {ow : Nat → Option Int} {sn H : Nat} {lf ids : List Nat} {R : List (ByteArray × Ce)} {ff : Prop} (h : SV w B g b gs r N M und pg) (ht : Tv pg n st kd rt ow sn H lf ids R ff) (gh : Bool) :
    Calls Tryz.prog 79 #[.pointer (some ⟨g, 0, none⟩), .int .i64 sn, .bool gh] w fun e w' => e = .returned (.tuple #[.int .i64 (rt (sn - 1) : Nat), .int .i64 0]) ∧ Below w.heap.size w w' := by
  have CF := find_vol h ht.vol sn
  have s1 := ht.s1
  have e1 : ((sn : Int) - 1).toNat = sn - 1 := by omega
  rw [e1, ht.st] at CF
  have hk := ht.kd
  have CF := Lib.hid CF
  have HK := Lib.hid hk
  have S1 := Lib.hid s1
  generalize kd (sn - 1) = k at *
  generalize rt (sn - 1) = rr at *
  clear h ht hk s1 e1
  go_enter Tryz.func79, Tryz.ntmps79
  go_wp2_with fail
  refine CF.out.mono ?_
  rintro e w1 (⟨hx, -, -⟩ | ⟨-, rfl, hb⟩)
  · exact absurd ⟨by have := S1.out; omega, by have := S1.out; omega, by decide⟩ hx
  · rcases HK.out with rfl | rfl
    · go_wp2
      refine bodyPost_ret (v := .tuple #[.int .i64 (rr : Nat), .int .i64 0]) (by simp [results, Tryz.results79, go_sem]) rfl ?_
      exact ⟨rfl, hb⟩
    · go_wp2
      refine bodyPost_ret (v := .tuple #[.int .i64 (rr : Nat), .int .i64 0]) (by simp [results, Tryz.results79, go_sem]) rfl ?_
      exact ⟨rfl, hb⟩
set_option maxRecDepth 100000 in
set_option maxHeartbeats 4000000 in
theorem load_any {w : World} {B g b gs r N M : Nat} {und pg : Nat → Pg} (h : SV w B g b gs r N M und pg) (id sn : Nat) (hid : id < N) (hp : (pg id).ok) (hk : nodeOk (pg id)) (hs : (pg id).s = sn) :
    Calls Tryz.prog 105 #[.pointer (some ⟨g, 0, none⟩), .int .i64 sn, .int .i64 id] w fun e w' => e = .returned (.tuple #[.agg (pg id).cs, .int .i64 0]) ∧ Below w.heap.size w w' := by
  have V1 := Lib.hid (h.alloc (.cells Pg.zero.cs 38))
  have KR := Lib.hid (Bk.new w 38 Pg.zero.cs)
  have B1 := Lib.hid ((Below.refl w.heap.size w).alloc (Nat.le_refl _) (.cells Pg.zero.cs 38))
  obtain ⟨p, hpp⟩ : ∃ p, p = pg id := ⟨_, rfl⟩
  have CG := Lib.hid (fun (w' : World) (hs : SV w' B g b gs r N M und pg) => sv_get hs id hid)
  rw [← hpp] at hp hk hs CG ⊢
  have CC := Lib.hid (fun (w' : World) => ncheck_any p w' (ok_sz hp))
  have e0 : nodeE p = 0 := if_pos hk
  rw [e0] at CC
  have HL := hp.1.2.2.2.1
  clear h hid hp hk e0 hpp
  go_enter Tryz.func105, Tryz.ntmps105
  go_upto_region 1 with fail
  change Code.wp _ _ _ _ (w.alloc (.cells Pg.zero.cs 38))
  obtain ⟨G, hG⟩ : ∃ G, G = w.heap.size := ⟨_, rfl⟩
  rw [← hG] at KR
  have SZ := Lib.hid hG
  generalize w.alloc (.cells Pg.zero.cs 38) = w1 at *
  rw [← hG]
  clear hG
  go_wp2_with fail
  refine (CG.out w1 V1.out).mono ?_
  rintro e w2 ⟨rfl, hb⟩
  have KR2 := Lib.hid ((KR.out.kept hb).alloc (.cells p.cs 38))
  have KP2 := Lib.hid (Bk.new w2 38 p.cs)
  have B2 := Lib.hid ((below_then B1.out hb B1.out.size).alloc (Nat.le_trans B1.out.size hb.size) (.cells p.cs 38))
  obtain ⟨Q, hQ⟩ : ∃ Q, Q = w2.heap.size := ⟨_, rfl⟩
  rw [← hQ] at KP2
  clear hb CG V1 KR B1
  dsimp only
  go_upto_region 4 with (refine store_page_new rfl _ _ rfl p rfl rfl ?_; rw [← hQ]; clear hQ; generalize w2.alloc (.cells p.cs 38) = w3 at *)
  go_wp2_with (refine load_page rfl _ rfl Q p rfl KP2.out ?_)
  refine (CC.out _).mono ?_
  rintro e w4 ⟨rfl, hb⟩
  have KR4 := Lib.hid (KR2.out.kept hb); have KP4 := Lib.hid (KP2.out.kept hb)
  have B4 := Lib.hid (below_then B2.out hb B2.out.size)
  clear hb KR2 KP2 B2 CC
  have x1 : w4.cell? ⟨Q, 1, none⟩ = some (.int .i64 p.l) := KP4.out.cell 1
  have x2 : w4.cell? ⟨Q, 2, none⟩ = some (.int .i64 sn) := by rw [← hs]; exact KP4.out.cell 2
  have l1 : ¬ 255 < p.l := by omega
  have l2 : decide (255 < p.l) = false := decide_eq_false l1
  go_upto_region 6 with fail
  go_wp2_with (first | (refine load_page rfl _ rfl Q p rfl KP4.out ?_) | (refine store_page rfl _ _ rfl G p Pg.zero rfl rfl KR4.out ?_))
  refine bodyPost_ret (page_res rfl _ _ G p.cs (row_bk KR4.out) rfl rfl) rfl ?_
  exact ⟨rfl, below_setRow B4.out (by rw [SZ.out]; exact Nat.le_refl _) _⟩
def keyOk (k : ByteArray) : Prop := 1 ≤ k.size ∧ k.size ≤ 8
instance (k : ByteArray) : Decidable (keyOk k) := by unfold keyOk; infer_instance
set_option maxHeartbeats 1000000 in
theorem iskey_any (k : ByteArray) (w : World) : Calls Tryz.prog 52 #[.string k] w fun e w' => e = .returned (.bool (decide (keyOk k))) ∧ w' = w := by
  obtain ⟨v, hv⟩ : ∃ v, v = decide (keyOk k) := ⟨_, rfl⟩
  have HV := Lib.hid hv
  rw [← hv]
  clear hv
  have he := ba_empty5 k
  by_cases h0 : k.size = 0
  · rw [decide_eq_true h0] at he
    obtain rfl : v = false := by rw [HV.out]; exact decide_eq_false (fun h => by unfold keyOk at h; omega)
    clear HV
    go_enter Tryz.func52, Tryz.ntmps52
    go_wp2
    go_ret
    exact ⟨rfl, rfl⟩
  · rw [decide_eq_false h0] at he
    by_cases h8 : k.size ≤ 8
    · obtain rfl : v = true := by rw [HV.out]; exact decide_eq_true ⟨by omega, h8⟩
      have h8i : (k.size : Int) ≤ 8 := by omega
      clear HV
      go_enter Tryz.func52, Tryz.ntmps52
      go_wp2
      go_ret
      exact ⟨rfl, rfl⟩
    · obtain rfl : v = false := by rw [HV.out]; exact decide_eq_false (fun h => by unfold keyOk at h; omega)
      have h8i : ¬ (k.size : Int) ≤ 8 := by omega
      have h8d : decide (k.size ≤ 8) = false := decide_eq_false h8
      clear HV
      go_enter Tryz.func52, Tryz.ntmps52
      go_wp2
      go_ret
      exact ⟨rfl, rfl⟩
def ghostC (c : Ce) : Ce := ⟨2, c.d⟩
theorem ce_res1 {fn : Func} {p : Tmp} (hf : fn.results = #[.cell p 35]) (tmps : Array Value) (w : World) (g : Nat) (a b : Value) (h : Bk w g 35 #[a, b]) (hp : tmps.getD p undef = .pointer (some ⟨g, 0, none⟩)) :
    (results fn tmps).run Tryz.prog w = .ok (.agg #[a, b]) w := by
  have e := run_loadVar_row (P := Tryz.prog) w g 35 35 #[a, b] (0, 0) _ h Tryz.underlying35 rfl (by kernel_rfl)
  simp only [results, hf]
  have : (Sem.run Tryz.prog (asAddr (tmps.getD p undef)) w) = .ok ⟨g, 0, none⟩ w := by rw [hp]; simp [asAddr, Sem.run_pure]
  simp [Sem.run_bind, Result.andThen]
  simp [Array.getD_eq_getD_getElem?] at this
  rw [this]
  simp [e]
theorem ghost_any (c : Ce) (w : World) : Calls Tryz.prog 60 #[c.v] w fun e w' => e = .returned (ghostC c).v ∧ Below w.heap.size w w' := by
  obtain ⟨st, d⟩ := c
  unfold Ce.v ghostC
  dsimp only
  go_enter Tryz.func60, Tryz.ntmps60
  go_wp2
  have k0 : Bk ((w.alloc (.cells #[.int .i64 st, .string d] 35)).alloc (.cells #[.int .i64 2, .string d] 35)) (w.heap.size + 1) 35 #[.int .i64 2, .string d] := Bk.new2 w _ _ _
  refine bodyPost_ret (ce_res1 rfl _ _ (w.heap.size + 1) _ _ k0 rfl) rfl ?_
  exact ⟨rfl, ((Below.refl _ _).alloc (Nat.le_refl _) _).alloc (by simp) _⟩
end Go.Proofs.YtelbioooggnbiaaGreat
namespace Go.Proofs.YtelbioooggnbiaaGreat
open Go.RowKit Go.Maps

/-- A row of steps of the call's own. -/
def Pth (w : World) (base : Nat) (v : Value) (l : List Im) : Prop := w.ownsRow base 122 17 v l.length (flatIm l)
theorem Tryz.info122 : (Tryz.prog.info? 122).map (fun i => (i.zero, i.size, i.bytes)) = some (some (.agg Im.zero.cs), 17, 184) := by kernel_rfl
section
variable {ops : Array Oper} {rest : List Oper} {o : Oper} {a : Act} {w : World} {Q : Exit → Act → World → Prop}
theorem build_st (hg : o.guard = none) (x y : Operand) (ho : o.op = .build 122 #[(0, x), (1, y)]) (i : Im)
    (hx : a.eval x = .int .i64 i.id) (hy : a.eval y = .agg i.p.cs) (h : wpList Tryz.prog ops Q rest (a.put o.dst (.agg i.cs)) w) : wpList Tryz.prog ops Q (o :: rest) a w := by
  refine wpList_plain hg fun K' hK' => ?_
  have hb : (Instr.build 122 #[(0, .int .i64 i.id), (1, .agg i.p.cs)]).run Tryz.prog w = .ok (.agg i.cs) w := by kernel_rfl
  unfold Oper.wp execOp
  simp only [ho, Sem.run_bind, Sem.run_pure, Result.andThen_ok, List.map_toArray, List.map_cons, List.map_nil, hx, hy, hb]
  exact hK' _ _ h
theorem slice1_st (hg : o.guard = none) (x : Operand) (ho : o.op = .buildSlice 115 1 #[(0, x)]) (i : Im)
    (hx : a.eval x = .agg i.cs) (h : wpList Tryz.prog ops Q rest (a.put o.dst (.slice (some ⟨w.heap.size, 0, none⟩) 1 1)) (w.alloc (.cells i.cs 122))) : wpList Tryz.prog ops Q (o :: rest) a w := by
  obtain ⟨i0, hi0, hz0, hz1, hz2⟩ := info_parts Tryz.info122
  refine wpList_buildSlice hg 115 122 1 #[(0, x)] ho i.cs i0 _ Tryz.underlying115 hi0 hz0 (by rw [hz1]; decide) (by rw [hz1]; decide) ?_ h
  rw [hz1]
  simp only [List.map_toArray, List.map_cons, List.map_nil, hx]
  kernel_rfl
end
theorem pth_one (w : World) {base : Nat} (i : Im) (hb : base ≤ w.heap.size) : Pth (w.alloc (.cells i.cs 122)) base (.slice (some ⟨w.heap.size, 0, none⟩) 1 1) [i] := by
  refine ⟨by rw [flatIm_len], .inr ⟨w.heap.size, 1, i.cs, rfl, hb, Bk.new w _ _, Nat.le_refl _, by unfold maxLen; omega, by rw [← Array.length_toList, im_len], ?_⟩⟩
  unfold flatIm
  rw [List.flatMap_cons, List.flatMap_nil, List.append_nil, List.take_of_length_le (by rw [im_len]; exact Nat.le_refl _)]
/-- The steps of the way down, so many and one. -/
def pathL (pg : Nat → Pg) (k : ByteArray) (rt : Nat) (t : Nat) : List Im := (List.range (t + 1)).map fun j => ⟨(dn pg k rt j : Nat), pg (dn pg k rt j)⟩
theorem pathL_len (pg : Nat → Pg) (k : ByteArray) (rt t : Nat) : (pathL pg k rt t).length = t + 1 := by unfold pathL; rw [List.length_map, List.length_range]
theorem pathL_succ (pg : Nat → Pg) (k : ByteArray) (rt t : Nat) : pathL pg k rt (t + 1) = pathL pg k rt t ++ [⟨(dn pg k rt (t + 1) : Nat), pg (dn pg k rt (t + 1))⟩] := by
  unfold pathL
  rw [List.range_succ, List.map_append]
  rfl
theorem pth_apart {w : World} {base g : Nat} {v : Value} {l : List Im} {t : TypeId} {cs : Array Value} (h : Pth w base v l) (hk : Bk w g t cs) (ht : t ≠ 122) : v.ownBlock ≠ some g := fun e => by
  obtain ⟨-, -, c, hc⟩ := ow_blk h e
  exact Bk.ne_ hk hc ht rfl
set_option maxRecDepth 100000 in
set_option maxHeartbeats 8000000 in
theorem tdown_any {w : World} {B g b gs r N M n : Nat} {und pg : Nat → Pg} {ow : Nat → Option Int} {sn rt H : Nat} {lf ids : List Nat} {R : List (ByteArray × Ce)} {ff : Prop} (h : SV w B g b gs r N M und pg) (hn : n ≤ N) (hx : Ix pg n ow sn rt H lf ids R ff) (k : ByteArray) :
    Calls Tryz.prog 80 #[.pointer (some ⟨g, 0, none⟩), .int .i64 sn, .int .i64 rt, .string k] w fun e w' => ∃ v, e = .returned (.tuple #[v, .int .i64 0]) ∧ Pth w' w.heap.size v (pathL pg k rt H) ∧ Below w.heap.size w w' := by
  have HV := Lib.hid h
  have AT := Lib.hid (fun j hj => And.intro (hx.at_ k j hj).2.2 (hx.pgs _ (hx.at_ k j hj).2.1))
  have WAY := Lib.hid (fun j (hj : j < H) => (hx.way k hj).1)
  have HH := Lib.hid hx.high
  have CL := Lib.hid (fun (w' : World) (hb : Below w.heap.size w w') j (hj : j ≤ H) => load_any (h.kept hb) (dn pg k rt j) sn (by have := (AT.out j hj).2.lt; omega) (AT.out j hj).2.ok (AT.out j hj).2.nd (AT.out j hj).2.s)
  have CD := Lib.hid (fun (w' : World) j (hj : j ≤ H) => down_any (pg (dn pg k rt j)) k w' (ok_sz (AT.out j hj).2.ok))
  have CC := Lib.hid (fun (w' : World) j (hj : j < H) => child_any ((pg (dn pg k rt j)).c (fDown (pg (dn pg k rt j)) k)) w' (by
    have h1 := ok_sz (AT.out j (by omega)).2.ok
    have h2 := WAY.out j hj
    have := cnt_le (pg (dn pg k rt j)).c
    exact h1 _ (show fDown (pg (dn pg k rt j)) k < 6 by have h3 : fDown (pg (dn pg k rt j)) k < cnt (pg (dn pg k rt j)).c := h2; omega)))
  have BR := Lib.hid (Below.refl w.heap.size w)
  obtain ⟨i0, hi0, hz0, hz1, hz2⟩ := info_parts Tryz.info122
  clear h hn hx
  go_enter Tryz.func80, Tryz.ntmps80
  go_wp2_with fail
  refine (CL.out w BR.out 0 (Nat.zero_le _)).mono ?_
  rintro e w1 ⟨rfl, hb⟩
  obtain ⟨p0, hp0⟩ : ∃ p0, p0 = pg (dn pg k rt 0) := ⟨_, rfl⟩
  have HP0 := Lib.hid hp0
  rw [← hp0]
  have K1 := Lib.hid (Bk.new w1 38 p0.cs)
  have B1 := Lib.hid (hb.alloc hb.size (.cells p0.cs 38))
  have QB := Lib.hid hb.size
  obtain ⟨Q, hQ⟩ : ∃ Q, Q = w1.heap.size := ⟨_, rfl⟩
  rw [← hQ] at K1 QB
  clear hb hp0
  dsimp only
  go_upto_region 4 with (refine store_page_new rfl _ _ rfl p0 rfl rfl ?_; rw [← hQ]; clear hQ; generalize w1.alloc (.cells p0.cs 38) = w2 at *)
  obtain ⟨m0, hm0⟩ : ∃ m0 : Im, m0 = ⟨(rt : Nat), p0⟩ := ⟨_, rfl⟩
  have M0 := Lib.hid hm0
  have e0 : m0.id = (rt : Nat) := by rw [hm0]
  have e1 : m0.p = p0 := by rw [hm0]
  have P3 := Lib.hid (pth_one w2 (base := w.heap.size) m0 B1.out.size)
  have K3 := Lib.hid (K1.out.alloc (.cells m0.cs 122))
  have B3 := Lib.hid (B1.out.alloc B1.out.size (.cells m0.cs 122))
  clear hm0
  go_upto_region 5 with (first | (refine load_page rfl _ rfl Q p0 rfl K1.out ?_) | (refine build_st rfl _ _ rfl m0 (by rw [e0]; rfl) (by rw [e1]; rfl) ?_) | (refine slice1_st rfl _ rfl m0 rfl ?_))
  obtain ⟨T, hT⟩ : ∃ T, T = w2.heap.size := ⟨_, rfl⟩
  rw [← hT] at P3 ⊢
  obtain ⟨w3, hw3⟩ : ∃ w3, w3 = w2.alloc (.cells m0.cs 122) := ⟨_, rfl⟩
  rw [← hw3] at P3 K3 B3 ⊢
  clear K1 B1 hT hw3 e0 e1
  have L0 := (AT.out 0 (Nat.zero_le _)).1
  rw [← HP0.out] at L0
  have c0 : w3.cell? ⟨Q, 1, none⟩ = some (.int .i64 ((H : Nat) : Int)) := by rw [K3.out.cell]; show some (Value.int .i64 p0.l) = _; rw [L0]; rfl
  have P3' := Lib.hid (show Pth w3 w.heap.size (.slice (some ⟨T, 0, none⟩) 1 1) (pathL pg k rt 0) from by
    have : pathL pg k rt 0 = [m0] := by rw [M0.out, HP0.out]; rfl
    rw [this]; exact P3.out)
  have K3' := Lib.hid (show Bk w3 Q 38 (pg (dn pg k rt 0)).cs from by rw [← HP0.out]; exact K3.out)
  clear L0 P3 K3 M0
  as_aux_lemma =>
    go_wp2_with fail
    go_loopw [2, 12, 13] (fun id v lv wr => ∃ t : Nat, t ≤ H ∧ id = .int .i64 (dn pg k rt t : Nat) ∧ lv = .int .i64 ((H - t : Nat) : Int) ∧ Pth wr w.heap.size v (pathL pg k rt t) ∧ Bk wr Q 38 (pg (dn pg k rt t)).cs ∧ Below w.heap.size w wr) (fun _ _ lv _ => (RowKit.intOf lv).toNat)
    case atStart => exact ⟨0, Nat.zero_le _, rfl, rfl, P3'.out, K3'.out, B3.out⟩
    case round =>
      obtain ⟨t, ht, rfl, rfl, hP, hK, hb⟩ := hrel
      obtain ⟨xa, xc, hxe⟩ := ow_slice hP
      subst hxe
      rw [pathL_len] at hP ⊢
      have PT := Lib.hid hP; have KQ := Lib.hid hK; have BW := Lib.hid hb
      clear hP hK hb P3' K3' B3 c0 HP0
      by_cases hlt : t < H
      · have HLT := Lib.hid hlt
        have l0 : (0 : Int) < ((H - t : Nat) : Int) := by omega
        obtain ⟨lv, hlv⟩ : ∃ lv : Nat, lv = H - t := ⟨_, rfl⟩
        have LV := Lib.hid hlv
        rw [← hlv] at l0 ⊢
        obtain ⟨p, hp⟩ : ∃ p, p = pg (dn pg k rt t) := ⟨_, rfl⟩
        obtain ⟨p', hp'⟩ : ∃ p', p' = pg (dn pg k rt (t + 1)) := ⟨_, rfl⟩
        obtain ⟨q, hq⟩ : ∃ q, q = fDown p k := ⟨_, rfl⟩
        obtain ⟨x, hx⟩ : ∃ x, x = dn pg k rt (t + 1) := ⟨_, rfl⟩
        have XE : (p.c q).child = x := by rw [hx, hq, hp]; rfl
        have CD1 := Lib.hid (fun w' => CD.out w' t (Nat.le_of_lt hlt))
        have CC1 := Lib.hid (fun w' => CC.out w' t hlt)
        have CL1 := Lib.hid (fun w' hb => CL.out w' hb (t + 1) (by omega))
        have LN := (AT.out (t + 1) (by omega)).1
        have Q6 := Lib.hid (show q < 6 from by
          have h3 : fDown (pg (dn pg k rt t)) k < cnt (pg (dn pg k rt t)).c := WAY.out t hlt
          have := cnt_le (pg (dn pg k rt t)).c
          rw [hq, hp]; omega)
        rw [← hp, ← hq] at CC1
        rw [← hp] at KQ CD1
        rw [← hq] at CD1
        rw [XE] at CC1
        rw [← hx] at hp'
        rw [← hx, ← hp'] at CL1 LN
        have LN2 : p'.l = (lv : Int) - 1 := by rw [LN, hlv]; omega
        have PS := Lib.hid (show pathL pg k rt (t + 1) = pathL pg k rt t ++ [⟨(x : Nat), p'⟩] from by rw [pathL_succ, ← hx, ← hp'])
        have HP' := Lib.hid (show p' = pg (dn pg k rt (t + 1)) from by rw [← hx]; exact hp')
        have HX := Lib.hid hx
        have WL : wrap64 ((lv : Int) - 1) = (lv : Int) - 1 := by have := HH.out; unfold wrap64; omega
        clear hlt hlv hp hp' hq hx XE LN AT WAY CD CC CL
        as_aux_lemma =>
          go_wp2_with (refine load_page rfl _ rfl Q p rfl KQ.out ?_)
          refine (CD1.out _).mono ?_
          rintro e w4 ⟨rfl, hb⟩
          have KQ4 := Lib.hid (KQ.out.kept hb); have PT4 := Lib.hid (ow_kept PT.out hb); have B4 := Lib.hid (below_then BW.out hb BW.out.size)
          clear hb KQ PT BW CD1
          have q6i : (q : Int) < 6 := by have := Q6.out; omega
          go_wp2_with (refine load_cell_at rfl _ rfl Q p q Q6.out rfl KQ4.out ?_)
          refine (CC1.out _).mono ?_
          rintro e w5 ⟨rfl, hb⟩
          have KQ5 := Lib.hid (KQ4.out.kept hb); have PT5 := Lib.hid (ow_kept PT4.out hb); have B5 := Lib.hid (below_then B4.out hb B4.out.size)
          clear hb KQ4 PT4 B4 CC1
          as_aux_lemma =>
            go_wp2_with fail
            refine (CL1.out _ B5.out).mono ?_
            rintro e w6 ⟨rfl, hb⟩
            have KQ6 := Lib.hid (KQ5.out.kept hb); have PT6 := Lib.hid (ow_kept PT5.out hb); have B6 := Lib.hid (below_then B5.out hb B5.out.size)
            clear hb KQ5 PT5 B5 CL1
            as_aux_lemma =>
              have KQ7 := Lib.hid (row_bk (p := p') KQ6.out)
              have PT7 := Lib.hid (show Pth (w6.setRow Q p'.cs) w.heap.size (.slice xa (t + 1) xc) (pathL pg k rt t) from ow_same PT6.out fun j hj => setRow_other _ _ _ _ (fun e => pth_apart PT6.out KQ6.out (by decide) (e ▸ hj)))
              have B7 := Lib.hid (below_setRow B6.out QB.out p'.cs)
              go_upto_region 10 with (refine store_page rfl _ _ rfl Q p' p rfl rfl KQ6.out ?_; generalize w6.setRow Q p'.cs = w7 at *)
              clear KQ6 PT6 B6
              have c1 : w7.cell? ⟨Q, 1, none⟩ = some (.int .i64 ((lv : Int) - 1)) := by rw [KQ7.out.cell]; show some (Value.int .i64 p'.l) = _; rw [LN2]
              obtain ⟨m1, hm1⟩ : ∃ m1 : Im, m1 = ⟨(x : Nat), p'⟩ := ⟨_, rfl⟩
              have e0 : m1.id = (x : Nat) := by rw [hm1]
              have e1 : m1.p = p' := by rw [hm1]
              rw [← hm1] at PS
              have K8 := Lib.hid (KQ7.out.alloc (.cells m1.cs 122))
              have P8 := Lib.hid (World.ownsRow.alloc (show w7.ownsRow w.heap.size 122 17 (.slice xa (t + 1) xc) (t + 1) (flatIm (pathL pg k rt t)) from by have := PT7.out; unfold Pth at this; rw [pathL_len] at this; exact this) (.cells m1.cs 122))
              have B8 := Lib.hid (B7.out.alloc B7.out.size (.cells m1.cs 122))
              clear hm1 LN2
              as_aux_lemma =>
                go_wp2_with (first | (refine load_page rfl _ rfl Q p' rfl KQ7.out ?_) | (refine build_st rfl _ _ rfl m1 (by rw [e0]; rfl) (by rw [e1]; rfl) ?_) | (refine slice1_st rfl _ rfl m1 rfl ?_) | (at_builtin; refine wpList_append_lies _ rfl _ _ 115 rfl w.heap.size 122 i0 (.agg Im.zero.cs) 17 184 Tryz.underlying115 hi0 hz0 hz1 hz2 rfl (by decide) (.slice xa (t + 1) xc) (t + 1) (flatIm (pathL pg k rt t)) rfl P8.out ⟨w7.heap.size, 0, none⟩ 1 1 m1.cs.toList rfl (by rw [im_len]) ?qc2 ?qc3 (by decide) ?qc4 ?qc5 ?qc6 _ rfl ?_))
                case qc2 =>
                  intro y z hz
                  rw [Addr.add_lit, Nat.zero_add]
                  refine Eq.trans ((Bk.new w7 122 m1.cs).cell y) ?_
                  simpa using hz
                case qc3 => simp [Im.cs, Pg.cs, Value.oneCell']
                case qc4 => have := HH.out; have := HLT.out; unfold maxLen; omega
                case qc5 => have := HH.out; have := HLT.out; omega
                case qc6 => exact B8.out.size
                intro g2 cap w9 h2 h3 h4 h5
                have P9 := Lib.hid (show Pth w9 w.heap.size (.slice (some ⟨g2, 0, none⟩) (t + 1 + 1) cap) (pathL pg k rt (t + 1)) from by
                  unfold Pth
                  rw [pathL_len, PS.out, flatIm_app]
                  exact h2)
                have K9 := Lib.hid (K8.out.grown h3 (fun e => pth_apart (l := pathL pg k rt t) (by unfold Pth; rw [pathL_len]; exact P8.out) K8.out (by decide) e.symm))
                have B9 := Lib.hid (bl_grow B8.out h3 (fun j hj => (ow_blk P8.out hj).1) B8.out.size)
                clear h2 h3 h4 h5 c1 K8 P8 B8 KQ7 PT7 B7 hi0 hz0 hz1 hz2 e0 e1
                have XX := HX.out
                go_wp2
                go_roundw
                case rel => exact ⟨t + 1, HLT.out, by rw [← HX.out], by (have h5 := LV.out; have h6 := HLT.out; rw [show wrap64 ((lv : Int) - 1) = ((H - (t + 1) : Nat) : Int) from by rw [WL]; omega]), P9.out, by rw [← HP'.out]; exact K9.out, B9.out⟩
                case measure => have := LV.out; have := HLT.out; simp [RowKit.intOf]; omega
      · obtain rfl : t = H := by omega
        have l0 : ¬ (0 : Int) < ((t - t : Nat) : Int) := by omega
        clear hlt
        go_wp2
        refine bodyPost_ret (v := .tuple #[.slice xa (t + 1) xc, .int .i64 0]) (by simp [results, Tryz.results80, go_sem]) rfl ?_
        exact ⟨_, rfl, PT.out, BW.out⟩
end Go.Proofs.YtelbioooggnbiaaGreat
namespace Go.Proofs.YtelbioooggnbiaaGreat
open Go.RowKit Go.Maps

/-- An undo of a key. -/
def udK (sn : Int) (k : ByteArray) (c : Ce) : Ud := ⟨2, sn, 0, 0, k, c⟩
section
variable {ops : Array Oper} {rest : List Oper} {o : Oper} {a : Act} {w : World} {Q : Exit → Act → World → Prop}
theorem build_udK (hg : o.guard = none) (x y z : Operand) (ho : o.op = .build 72 #[(0, .const (.int .i64 2)), (1, x), (4, y), (5, z)]) (s : Int) (k : ByteArray) (c : Ce) (hx : a.eval x = .int .i64 s) (hy : a.eval y = .string k) (hz : a.eval z = .agg #[.int .i64 c.st, .string c.d]) (h : wpList Tryz.prog ops Q rest (a.put o.dst (.agg (udK s k c).cs)) w) : wpList Tryz.prog ops Q (o :: rest) a w := by
  refine wpList_plain hg fun K' hK' => ?_
  have hb : (Instr.build 72 #[(0, .int .i64 2), (1, .int .i64 s), (4, .string k), (5, .agg #[.int .i64 c.st, .string c.d])]).run Tryz.prog w = .ok (.agg (udK s k c).cs) w := by kernel_rfl
  unfold Oper.wp execOp
  have hc : a.eval (.const (.int .i64 2)) = .int .i64 2 := rfl
  simp only [ho, Sem.run_bind, Sem.run_pure, Result.andThen_ok, List.map_toArray, List.map_cons, List.map_nil, hc, hx, hy, hz, hb]
  exact hK' _ _ h
theorem st_range {w : World} {g : Nat} {i : Im} (h : Bk w g 122 i.cs) : w.rangeAt g 1 i.p.cs.toList := fun j v hv => by
  rw [h.cell]
  unfold Im.cs
  rw [List.getElem?_toArray, Nat.add_comm 1 j, List.getElem?_cons_succ]
  exact hv
theorem st_cell {w : World} {g : Nat} {m : Im} (h : Bk w g 122 m.cs) {j : Nat} (hj : j < 6) : w.rangeAt g (5 + j * 2) [.int .i64 (m.p.c j).st, .string (m.p.c j).d] := fun i v hv => by
  have hi : i < 2 := (List.getElem?_eq_some_iff.1 hv).1
  rw [h.cell]
  rcases (show i = 0 ∨ i = 1 by omega) with e | e <;> subst e <;> simp at hv <;> subst hv <;> rcases six hj with h | h | h | h | h | h <;> subst h <;> rfl
theorem load_st (hgd : o.guard = none) (x : Operand) (ho : o.op = .load 122 x) (g : Nat) (m : Im) (hx : a.eval x = .pointer (some ⟨g, 0, none⟩)) (hb : Bk w g 122 m.cs) (h : wpList Tryz.prog ops Q rest (a.put o.dst (.agg m.cs)) w) : wpList Tryz.prog ops Q (o :: rest) a w :=
  wpList_load_row hgd 122 x ho g hx 122 m.cs (0, 0) _ hb Tryz.underlying122 rfl (by rw [← Array.length_toList, im_len]; kernel_rfl) h
theorem load_st_page (hgd : o.guard = none) (x : Operand) (ho : o.op = .load 38 x) (g : Nat) (m : Im) (hx : a.eval x = .pointer (some ⟨g, 1, none⟩)) (hb : Bk w g 122 m.cs) (h : wpList Tryz.prog ops Q rest (a.put o.dst (.agg m.p.cs)) w) : wpList Tryz.prog ops Q (o :: rest) a w :=
  wpList_load_mid hgd 38 x ho g 1 hx m.p.cs.toList _ (st_range hb) Tryz.underlying38 rfl (by rw [pg_len]; kernel_rfl) (by simpa using h)
theorem load_st_cell (hgd : o.guard = none) (x : Operand) (ho : o.op = .load 35 x) (g : Nat) (m : Im) (j : Nat) (hj : j < 6) (hx : a.eval x = .pointer (some ⟨g, 5 + j * 2, none⟩)) (hb : Bk w g 122 m.cs)
    (h : wpList Tryz.prog ops Q rest (a.put o.dst (.agg #[.int .i64 (m.p.c j).st, .string (m.p.c j).d])) w) : wpList Tryz.prog ops Q (o :: rest) a w :=
  wpList_load_mid hgd 35 x ho g (5 + j * 2) hx [.int .i64 (m.p.c j).st, .string (m.p.c j).d] _ (st_cell hb hj) Tryz.underlying35 rfl (by show _ = some 2; kernel_rfl) (by simpa using h)
theorem store_st (hgd : o.guard = none) (x y : Operand) (ho : o.op = .store 122 x y) (g : Nat) (m m' : Im) (hx : a.eval x = .pointer (some ⟨g, 0, none⟩)) (hy : a.eval y = .agg m.cs) (hb : Bk w g 122 m'.cs) (h : wpList Tryz.prog ops Q rest (a.put o.dst undef) (w.setRow g m.cs)) : wpList Tryz.prog ops Q (o :: rest) a w :=
  wpList_store_row hgd 122 x y ho g m.cs hx hy 122 m'.cs hb (by rw [← Array.length_toList, im_len]; kernel_rfl) (by rw [← Array.length_toList, ← Array.length_toList, im_len, im_len]) (by simp [Im.cs, Pg.cs, Value.oneCell']) h
theorem st_bk {w : World} {g : Nat} {m m' : Im} (hb : Bk w g 122 m'.cs) : Bk (w.setRow g m.cs) g 122 m.cs := setRow_heap _ _ _ _ _ _ hb
theorem store_st_new (hgd : o.guard = none) (x y : Operand) (ho : o.op = .store 122 x y) (m : Im) (hx : a.eval x = .pointer (some ⟨w.heap.size, 0, none⟩)) (hy : a.eval y = .agg m.cs) (h : wpList Tryz.prog ops Q rest (a.put o.dst undef) (w.alloc (.cells m.cs 122))) : wpList Tryz.prog ops Q (o :: rest) a (w.alloc (.cells Im.zero.cs 122)) := by
  refine store_st hgd x y ho w.heap.size m Im.zero hx hy (Bk.new _ _ _) ?_
  rw [World.setRow_alloc_new]
  exact h
theorem build_st0 (hg : o.guard = none) (ho : o.op = .build 122 #[]) (h : wpList Tryz.prog ops Q rest (a.put o.dst (.agg Im.zero.cs)) w) : wpList Tryz.prog ops Q (o :: rest) a w := by
  refine wpList_plain hg fun K' hK' => ?_
  have hb : (Instr.build 122 #[]).run Tryz.prog w = .ok (.agg Im.zero.cs) w := by kernel_rfl
  unfold Oper.wp execOp
  simp only [ho, Sem.run_bind, Sem.run_pure, Result.andThen_ok, List.map_toArray, List.map_cons, List.map_nil, hb]
  exact hK' _ _ h
/-- A page, a step in a row of steps. -/
theorem load_pth_page (hgd : o.guard = none) (x : Operand) (ho : o.op = .load 38 x) (g : Nat) (m : Im) (i : Nat) (hx : a.eval x = .pointer (some ⟨g, i * 17 + 1, none⟩)) (hb : w.rangeAt g (i * 17) m.cs.toList) (h : wpList Tryz.prog ops Q rest (a.put o.dst (.agg m.p.cs)) w) : wpList Tryz.prog ops Q (o :: rest) a w :=
  wpList_load_mid hgd 38 x ho g (i * 17 + 1) hx m.p.cs.toList _ (fun j v hv => by
    have := hb (j + 1) v (by unfold Im.cs; exact hv)
    rw [Nat.add_assoc, Nat.add_comm 1 j]
    exact this) Tryz.underlying38 rfl (by rw [pg_len]; kernel_rfl) (by simpa using h)
theorem load_pth (hgd : o.guard = none) (x : Operand) (ho : o.op = .load 122 x) (g : Nat) (m : Im) (i : Nat) (hx : a.eval x = .pointer (some ⟨g, i * 17, none⟩)) (hb : w.rangeAt g (i * 17) m.cs.toList) (h : wpList Tryz.prog ops Q rest (a.put o.dst (.agg m.cs)) w) : wpList Tryz.prog ops Q (o :: rest) a w :=
  wpList_load_mid hgd 122 x ho g (i * 17) hx m.cs.toList _ hb Tryz.underlying122 rfl (by rw [im_len]; kernel_rfl) (by simpa using h)
end
theorem pth_at {w : World} {base : Nat} {v : Value} {l : List Im} (h : Pth w base v l) {i : Nat} {m : Im} (hi : l[i]? = some m) : ∃ g cap, v = .slice (some ⟨g, 0, none⟩) l.length cap ∧ base ≤ g ∧ g < w.heap.size ∧ w.rangeAt g (i * 17) m.cs.toList := by
  have hl : i < l.length := (List.getElem?_eq_some_iff.1 hi).1
  obtain ⟨g, cap, hv, h1, h2⟩ := World.ownsRow.form h (by omega)
  refine ⟨g, cap, hv, h1, h2, fun j v' hv' => ?_⟩
  have hj : j < 17 := by have := (List.getElem?_eq_some_iff.1 hv').1; rwa [im_len] at this
  subst hv
  have := World.ownsRow.cells h (g := g) rfl (i * 17 + j) v' (by rw [flatIm_get l i m hi j hj]; simpa using hv')
  rw [Addr.add_lit, Nat.zero_add] at this
  exact this
theorem pathL_at (pg : Nat → Pg) (k : ByteArray) (rt : Nat) {t j : Nat} (hj : j ≤ t) : (pathL pg k rt t)[j]? = some ⟨(dn pg k rt j : Nat), pg (dn pg k rt j)⟩ := by
  unfold pathL
  rw [List.getElem?_map, List.getElem?_range (by omega)]
  rfl
def stP (m : Im) (i : Nat) (c : Ce) : Im := ⟨m.id, putC m.p i c⟩
theorem putRowSt {w : World} {g : Nat} (m : Im) (i : Nat) (hi : i < 6) (c : Ce) (h : Bk w g 122 m.cs) : Bk (w.setCells g (5 + i * 2) [.int .i64 c.st, .string c.d]) g 122 (stP m i c).cs := by
  have := Bk.lays [.int .i64 c.st, .string c.d] w _ (5 + i * 2) h
  have e : lay m.cs (5 + i * 2) [.int .i64 c.st, .string c.d] = (stP m i c).cs := by
    rcases six hi with h | h | h | h | h | h <;> subst h <;> simp [lay, Im.cs, stP, putC, Pg.cs]
  rw [e] at this
  exact this
theorem store_st_cell {ops : Array Oper} {rest : List Oper} {o : Oper} {a : Act} {w : World} {Q : Exit → Act → World → Prop} (hgd : o.guard = none) (x y : Operand) (ho : o.op = .store 35 x y) (g : Nat) (m : Im) (i : Nat) (hi : i < 6) (st : Int) (d : ByteArray) (hx : a.eval x = .pointer (some ⟨g, 5 + i * 2, none⟩)) (hy : a.eval y = .agg #[.int .i64 st, .string d]) (hb : Bk w g 122 m.cs)
    (h : wpList Tryz.prog ops Q rest (a.put o.dst undef) (w.setCells g (5 + i * 2) [.int .i64 st, .string d])) : wpList Tryz.prog ops Q (o :: rest) a w :=
  wpList_store_mid hgd 35 x y ho g (5 + i * 2) #[.int .i64 st, .string d] hx hy (fun j hj => by
    have hj2 : j < 2 := hj
    refine ⟨?_, hb.fz _⟩
    rw [hb.cell]
    rcases (show j = 0 ∨ j = 1 by omega) with e | e <;> subst e <;> rcases six hi with h | h | h | h | h | h <;> subst h <;> rfl) (by show _ = some 2; kernel_rfl) (by simp [Value.oneCell']) h
end Go.Proofs.YtelbioooggnbiaaGreat
namespace Go.Proofs.YtelbioooggnbiaaGreat
open Go.RowKit Go.Maps

set_option maxRecDepth 100000 in
set_option maxHeartbeats 8000000 in
theorem tfind_any {w : World} {B g b gs r N M n : Nat} {und pg : Nat → Pg} {st : Nat → Int} {kd rt : Nat → Nat} {ow : Nat → Option Int} {sn H : Nat} {lf ids : List Nat} {R : List (ByteArray × Ce)} {ff : Prop} (h : SV w B g b gs r N M und pg) (hn : n ≤ N) (ht : Tv pg n st kd rt ow sn H lf ids R ff) (k : ByteArray) (gh : Bool) :
    Calls Tryz.prog 53 #[.pointer (some ⟨g, 0, none⟩), .int .i64 sn, .string k, .bool gh] w fun e w' => ∃ v, e = .returned (.tuple #[v, .int .i64 (fAt (pg (dn pg k (rt (sn - 1)) H)) k : Nat), .bool (fThere (pg (dn pg k (rt (sn - 1)) H)) k), .int .i64 0]) ∧ Pth w' w.heap.size v (pathL pg k (rt (sn - 1)) H) ∧ Below w.heap.size w w' := by
  have CR := Lib.hid (root_any h ht gh)
  have CD := Lib.hid (fun (w' : World) (hb : Below w.heap.size w w') => tdown_any (h.kept hb) hn ht.ix k)
  have H9 := Lib.hid ht.ix.high
  have OK := Lib.hid (ht.ix.pgs _ (ht.ix.at_ k H (Nat.le_refl _)).2.1).ok
  generalize hrt : rt (sn - 1) = rr at *
  have AT := Lib.hid (pathL_at pg k rr (Nat.le_refl H))
  have LL := Lib.hid (pathL_len pg k rr H)
  generalize hp : pathL pg k rr H = P at *
  generalize hl : dn pg k rr H = l at *
  obtain ⟨p, hpp⟩ : ∃ p, p = pg l := ⟨_, rfl⟩
  rw [← hpp] at OK AT ⊢
  have CF := Lib.hid (fun w' => find_any p k w' (ok_sz OK.out))
  obtain ⟨fi, hfi⟩ : ∃ fi, fi = fAt p k := ⟨_, rfl⟩
  obtain ⟨fb, hfb⟩ : ∃ fb, fb = fThere p k := ⟨_, rfl⟩
  have HF := Lib.hid (And.intro hfi hfb)
  rw [← hfi, ← hfb]
  obtain ⟨m, hm⟩ : ∃ m : Im, m = ⟨(l : Nat), p⟩ := ⟨_, rfl⟩
  rw [← hm] at AT
  have MP := Lib.hid (show m.p = p by rw [hm])
  clear h hn ht hrt hp hl hpp hfi hfb hm
  go_enter Tryz.func53, Tryz.ntmps53
  go_wp2_with fail
  refine CR.out.mono ?_
  rintro e w1 ⟨rfl, hb⟩
  have B1 := Lib.hid hb
  clear hb CR
  as_aux_lemma =>
    go_wp2_with fail
    refine (CD.out _ B1.out).mono ?_
    rintro e w2 ⟨v, rfl, hP, hb⟩
    have P2 := Lib.hid (ow_mono hP (b2 := w.heap.size) B1.out.size); have B2 := Lib.hid (below_then B1.out hb B1.out.size)
    clear hP hb CD B1
    obtain ⟨g2, cap, rfl, h1, h2, h3⟩ := pth_at P2.out AT.out
    have RG := Lib.hid h3
    rw [LL.out] at P2 ⊢
    clear h1 h2 h3
    have hH := H9.out
    have i1 : wrap64 (((H + 1 : Nat) : Int) - 1) = (H : Int) := by unfold wrap64; omega
    have i2 : (H : Int) < ((H + 1 : Nat) : Int) := by omega
    have i3 : (0 : Int) ≤ (H : Int) := by omega
    have i4 : (((H + 1 : Nat) : Int) - 1) = (H : Int) := by omega
    as_aux_lemma =>
      go_wp2_with (refine load_pth_page rfl _ rfl g2 m H rfl RG.out ?_; rw [MP.out])
      refine (CF.out _).mono ?_
      rintro e w3 ⟨j, b, rfl, ⟨rfl, rfl⟩, hb⟩
      rw [← HF.out.1, ← HF.out.2]
      have P3 := Lib.hid (ow_kept P2.out hb); have B3 := Lib.hid (below_then B2.out hb B2.out.size)
      clear hb CF P2 B2 RG i1 i2 i3 i4 hH
      go_wp2
      refine bodyPost_ret (v := .tuple #[.slice (some ⟨g2, 0, none⟩) (H + 1) cap, .int .i64 (fi : Nat), .bool fb, .int .i64 0]) (by simp [results, Tryz.results53, go_sem]) rfl ?_
      exact ⟨_, rfl, (by unfold Pth; rw [LL.out]; exact P3.out), B3.out⟩
theorem st_ctt {fn : Func} {p u v : Tmp} (hf : fn.results = #[.cell p 122, .tmp u, .tmp v]) (tmps : Array Value) (w : World) (g : Nat) (m : Im) (h : Bk w g 122 m.cs) (hp : tmps.getD p undef = .pointer (some ⟨g, 0, none⟩)) :
    (results fn tmps).run Tryz.prog w = .ok (.tuple #[.agg m.cs, tmps.getD u undef, tmps.getD v undef]) w := by
  rw [results_ctt hf, hp]
  have := run_loadVar_row (P := Tryz.prog) w g 122 122 m.cs (0, 0) _ h Tryz.underlying122 rfl (by rw [← Array.length_toList, im_len]; kernel_rfl)
  simp [asAddr, Sem.run_pure, Result.andThen, this]
/-- Is a key live in its leaf? -/
def liveP (p : Pg) (k : ByteArray) : Prop := fThere p k = true ∧ (p.c (fAt p k)).st = 1
instance (p : Pg) (k : ByteArray) : Decidable (liveP p k) := by unfold liveP; infer_instance
def LivePost (w : World) (l : Nat) (p : Pg) (k : ByteArray) (e : Ending) (w' : World) : Prop :=
  ((liveP p k ∧ e = .returned (.tuple #[.agg (⟨(l : Nat), p⟩ : Im).cs, .int .i64 (fAt p k : Nat), .int .i64 0])) ∨ (¬ liveP p k ∧ e = .returned (.tuple #[.agg Im.zero.cs, .int .i64 0, .int .i64 150]))) ∧ Below w.heap.size w w'
theorem fThere_lt {p : Pg} {k : ByteArray} (h : fThere p k = true) : fAt p k < cnt p.c ∧ fAt p k < 6 := by
  have := cnt_le p.c
  unfold fThere at h
  rw [Bool.and_eq_true] at h
  have := of_decide_eq_true h.1
  omega
set_option maxRecDepth 100000 in
set_option maxHeartbeats 8000000 in
theorem live_any {w : World} {B g b gs r N M n : Nat} {und pg : Nat → Pg} {st : Nat → Int} {kd rt : Nat → Nat} {ow : Nat → Option Int} {sn H : Nat} {lf ids : List Nat} {R : List (ByteArray × Ce)} {ff : Prop} (h : SV w B g b gs r N M und pg) (hn : n ≤ N) (ht : Tv pg n st kd rt ow sn H lf ids R ff) (k : ByteArray) :
    Calls Tryz.prog 59 #[.pointer (some ⟨g, 0, none⟩), .int .i64 sn, .string k] w (LivePost w (dn pg k (rt (sn - 1)) H) (pg (dn pg k (rt (sn - 1)) H)) k) := by
  have CF := Lib.hid (fun (w' : World) (hb : Below w.heap.size w w') => tfind_any (h.kept hb) hn ht k false)
  have H9 := Lib.hid ht.ix.high
  generalize hrt : rt (sn - 1) = rr at *
  have AT := Lib.hid (pathL_at pg k rr (Nat.le_refl H))
  have LL := Lib.hid (pathL_len pg k rr H)
  generalize hp : pathL pg k rr H = P at *
  generalize hl : dn pg k rr H = l at *
  obtain ⟨p, hpp⟩ : ∃ p, p = pg l := ⟨_, rfl⟩
  rw [← hpp] at AT CF ⊢
  have KR := Lib.hid (Bk.new w 122 Im.zero.cs)
  have B1 := Lib.hid ((Below.refl w.heap.size w).alloc (Nat.le_refl _) (.cells Im.zero.cs 122))
  have YES := Lib.hid (fun (w' : World) (hx : liveP p k) (hb : Below w.heap.size w w') => show LivePost w l p k (.returned (.tuple #[.agg (⟨(l : Nat), p⟩ : Im).cs, .int .i64 (fAt p k : Nat), .int .i64 0])) w' from ⟨.inl ⟨hx, rfl⟩, hb⟩)
  have NO := Lib.hid (fun (w' : World) (hx : ¬ liveP p k) (hb : Below w.heap.size w w') => show LivePost w l p k (.returned (.tuple #[.agg Im.zero.cs, .int .i64 0, .int .i64 150])) w' from ⟨.inr ⟨hx, rfl⟩, hb⟩)
  have FT := Lib.hid (fun (h : fThere p k = true) => (fThere_lt h).2)
  have LD := Lib.hid (show liveP p k ↔ fThere p k = true ∧ (p.c (fAt p k)).st = 1 from Iff.rfl)
  generalize LivePost w l p k = POST at *
  obtain ⟨m, hm⟩ : ∃ m : Im, m = ⟨(l : Nat), p⟩ := ⟨_, rfl⟩
  have MP := Lib.hid (show m.p = p by rw [hm])
  rw [← hm] at AT YES
  generalize fAt p k = fi at *
  generalize fThere p k = fb at *
  clear h hn ht hrt hp hl hpp hm
  go_enter Tryz.func59, Tryz.ntmps59
  go_upto_region 1 with fail
  change Code.wp _ _ _ _ (w.alloc (.cells Im.zero.cs 122))
  have SZ := Lib.hid (Nat.le_refl w.heap.size)
  obtain ⟨G, hG⟩ : ∃ G, G = w.heap.size := ⟨_, rfl⟩
  have GE := Lib.hid (show w.heap.size ≤ G by omega)
  rw [← hG] at KR ⊢
  obtain ⟨w1, hw1⟩ : ∃ w1, w1 = w.alloc (.cells Im.zero.cs 122) := ⟨_, rfl⟩
  rw [← hw1] at KR B1 ⊢
  clear hw1 hG
  go_wp2_with fail
  refine (CF.out _ B1.out).mono ?_
  rintro e w2 ⟨v, rfl, hP, hb⟩
  have P2 := Lib.hid hP; have B2 := Lib.hid (below_then B1.out hb B1.out.size); have KR2 := Lib.hid (KR.out.kept hb)
  clear hP hb CF B1 KR
  obtain ⟨g2, cap, rfl, h1, h2, h3⟩ := pth_at P2.out AT.out
  have RG := Lib.hid h3
  rw [LL.out]
  have KR3 := Lib.hid (KR2.out.alloc (.cells m.cs 122))
  have KC3 := Lib.hid (Bk.new w2 122 m.cs)
  have B3 := Lib.hid (B2.out.alloc B2.out.size (.cells m.cs 122))
  obtain ⟨C, hC⟩ : ∃ C, C = w2.heap.size := ⟨_, rfl⟩
  rw [← hC] at KC3
  clear h1 h2 h3
  have hH := H9.out
  have i1 : wrap64 (((H + 1 : Nat) : Int) - 1) = (H : Int) := by unfold wrap64; omega
  have i2 : (H : Int) < ((H + 1 : Nat) : Int) := by omega
  have i3 : (0 : Int) ≤ (H : Int) := by omega
  have i4 : (((H + 1 : Nat) : Int) - 1) = (H : Int) := by omega
  as_aux_lemma =>
    go_upto_region 5 with (first | (refine load_pth rfl _ rfl g2 m H rfl RG.out ?_) | (refine store_st_new rfl _ _ rfl m rfl rfl ?_; rw [← hC]; clear hC; generalize w2.alloc (.cells m.cs 122) = w3 at *))
    clear P2 B2 KR2 RG i1 i2 i3 i4 hH
    cases fb
    · have NL := Lib.hid (show ¬ liveP p k from fun hx => by have := (LD.out.1 hx).1; cases this)
      clear LD YES FT
      go_wp2_with (first | (refine build_st0 rfl rfl ?_) | (refine store_st rfl _ _ rfl G Im.zero Im.zero rfl rfl KR3.out ?_))
      refine bodyPost_ret (st_ctt rfl _ _ G Im.zero (st_bk KR3.out) rfl) rfl ?_
      exact NO.out _ NL.out (below_setRow B3.out GE.out _)
    · have H6 := Lib.hid (FT.out rfl)
      have j6 : (fi : Int) < 6 := by have := H6.out; omega
      have x0 : w3.cell? ⟨C, 5 + fi * 2, none⟩ = some (.int .i64 (p.c fi).st) := by
        have := st_cell KC3.out H6.out 0 (.int .i64 (m.p.c fi).st) rfl
        rw [MP.out] at this
        exact this
      obtain ⟨s, hs⟩ : ∃ s, s = (p.c fi).st := ⟨_, rfl⟩
      rw [← hs] at x0 LD
      clear hs
      by_cases h1 : s = 1
      · subst h1
        have NL := Lib.hid (LD.out.2 ⟨rfl, rfl⟩)
        clear LD NO FT
        go_wp2_with (first | (refine load_st rfl _ rfl C m rfl KC3.out ?_) | (refine store_st rfl _ _ rfl G m Im.zero rfl rfl KR3.out ?_))
        refine bodyPost_ret (st_ctt rfl _ _ G m (st_bk KR3.out) rfl) rfl ?_
        exact YES.out _ NL.out (below_setRow B3.out GE.out _)
      · have NL := Lib.hid (show ¬ liveP p k from fun hx => h1 (LD.out.1 hx).2)
        have h1b : (s != 1) = true := by simp [h1]
        clear LD YES FT
        go_wp2_with (first | (refine build_st0 rfl rfl ?_) | (refine store_st rfl _ _ rfl G Im.zero Im.zero rfl rfl KR3.out ?_))
        refine bodyPost_ret (st_ctt rfl _ _ G Im.zero (st_bk KR3.out) rfl) rfl ?_
        exact NO.out _ NL.out (below_setRow B3.out GE.out _)
set_option maxRecDepth 100000 in
set_option maxHeartbeats 8000000 in
theorem tchange_any {w : World} {B g b gs r N M : Nat} {und pg : Nat → Pg} (h : SV w B g b gs r N M und pg) (sn : Int) (k : ByteArray) (id : Nat) (hid : id < N) (s : Nat) (hs : s < 6) (p : Pg) (hp : p.ok) (c : Ce) (hc : c.ok) (hM : M < maxLen) :
    Calls Tryz.prog 55 #[.pointer (some ⟨g, 0, none⟩), .int .i64 sn, .string k, .agg (⟨(id : Nat), p⟩ : Im).cs, .int .i64 s, .agg #[.int .i64 c.st, .string c.d]] w fun e w' =>
      e = .returned (.tuple #[.agg (udK sn k (p.c s)).cs, .int .i64 0]) ∧ SV w' B g b gs r N (M + 1) und (upd pg id (putC p s c)) ∧ w.grownBy w' (some b) := by
  have HV := Lib.hid h
  have NEG := Lib.hid h.gs_ne
  have CS := Lib.hid (fun (w' : World) (hs : SV w' B g b gs r N M und pg) => sv_set hs id hid (putC p s c) (putC_ok2 hp s c hc) hM)
  have H6 := Lib.hid hs
  have s6 : (s : Int) < 6 := by omega
  obtain ⟨m, hm⟩ : ∃ m : Im, m = ⟨(id : Nat), p⟩ := ⟨_, rfl⟩
  have MP := Lib.hid (show m.p = p ∧ m.id = (id : Nat) ∧ (stP m s c).p = putC p s c from by rw [hm]; exact ⟨rfl, rfl, rfl⟩)
  rw [← hm]
  obtain ⟨u, hu⟩ : ∃ u, u = udK sn k (p.c s) := ⟨_, rfl⟩
  have HU := Lib.hid hu
  rw [← hu]
  clear h hid hp hc hM hm hu
  go_enter Tryz.func55, Tryz.ntmps55
  go_upto_region 1 with fail
  change Code.wp _ _ _ _ (((w.alloc (.cells m.cs 122)).alloc (.cells #[.int .i64 c.st, .string c.d] 35)).alloc (.cells ud0.cs 72))
  have KP := Lib.hid (((Bk.new w 122 m.cs).alloc (.cells #[.int .i64 c.st, .string c.d] 35)).alloc (.cells ud0.cs 72))
  have KC := Lib.hid ((Bk.new2 w (.cells m.cs 122) 35 #[.int .i64 c.st, .string c.d]).alloc (.cells ud0.cs 72))
  have KU := Lib.hid (Bk.new3 w (.cells m.cs 122) (.cells #[.int .i64 c.st, .string c.d] 35) 72 ud0.cs)
  have V1 := Lib.hid (((HV.out.alloc (.cells m.cs 122)).alloc (.cells #[.int .i64 c.st, .string c.d] 35)).alloc (.cells ud0.cs 72))
  have G1 := Lib.hid (only_alloc (only_alloc (World.grownBy_alloc w (.cells m.cs 122) (some b)) (.cells #[.int .i64 c.st, .string c.d] 35)) (.cells ud0.cs 72))
  obtain ⟨w1, hw1⟩ : ∃ w1, w1 = (((w.alloc (.cells m.cs 122)).alloc (.cells #[.int .i64 c.st, .string c.d] 35)).alloc (.cells ud0.cs 72)) := ⟨_, rfl⟩
  rw [← hw1] at KP KC KU V1 G1 ⊢
  clear hw1
  obtain ⟨U, hU⟩ : ∃ U, U = w.heap.size + 1 + 1 := ⟨_, rfl⟩
  rw [← hU] at KU ⊢
  obtain ⟨C, hC⟩ : ∃ C, C = w.heap.size + 1 := ⟨_, rfl⟩
  rw [← hC] at KC ⊢
  obtain ⟨P, hP⟩ : ∃ P, P = w.heap.size := ⟨_, rfl⟩
  rw [← hP] at KP ⊢
  have SZ := Lib.hid (show P = w.heap.size ∧ C = w.heap.size + 1 ∧ U = w.heap.size + 1 + 1 from ⟨hP, hC, hU⟩)
  clear hU hC hP HV
  obtain ⟨V, hVV⟩ : ∃ V, V = w1.heap.size := ⟨_, rfl⟩
  have KV := Lib.hid (Bk.new w1 72 u.cs)
  have KP2 := Lib.hid (KP.out.alloc (.cells u.cs 72))
  have KC2 := Lib.hid (KC.out.alloc (.cells u.cs 72))
  have KU2 := Lib.hid (KU.out.alloc (.cells u.cs 72))
  have V2 := Lib.hid (V1.out.alloc (.cells u.cs 72))
  have G2 := Lib.hid (only_alloc G1.out (.cells u.cs 72))
  have VZ := Lib.hid (show w.heap.size ≤ V ∧ U < V ∧ P < V by have := KU.out.lt; have := SZ.out; have := G1.out.size; omega)
  rw [← hVV] at KV
  as_aux_lemma =>
    go_upto_region 2 with (first | (refine load_st_cell rfl _ rfl P m s H6.out rfl KP.out ?_) | (refine build_udK rfl _ _ _ rfl sn k (p.c s) rfl rfl (by rw [← MP.out.1]; rfl) ?_; rw [← HU.out]) | (refine store_ud_new rfl _ _ rfl u rfl rfl ?_; rw [← hVV]; clear hVV; generalize w1.alloc (.cells u.cs 72) = w2 at *))
    clear KP KC KU V1 G1
    have KP3 := Lib.hid (putRowSt m s H6.out c KP2.out)
    have KU3 := Lib.hid (show Bk (w2.setCells P (5 + s * 2) [.int .i64 c.st, .string c.d]) U 72 ud0.cs from KU2.out.grown (setCells_only w2 P (5 + s * 2) _) (fun e => by have := SZ.out; injection e with e; omega))
    have KV3 := Lib.hid (show Bk (w2.setCells P (5 + s * 2) [.int .i64 c.st, .string c.d]) V 72 u.cs from KV.out.grown (setCells_only w2 P (5 + s * 2) _) (fun e => by have := VZ.out; injection e with e; omega))
    have V3 := Lib.hid (V2.out.grown (setCells_only w2 P (5 + s * 2) [.int .i64 c.st, .string c.d]) (fun k hk => by cases hk; have := SZ.out; have := NEG.out; omega))
    have G3 := Lib.hid (only_setCells G2.out (show w.heap.size ≤ P by have := SZ.out; omega) (5 + s * 2) [.int .i64 c.st, .string c.d])
    as_aux_lemma =>
      go_upto_region 3 with (first | (refine load_ce rfl _ rfl C c.st c.d rfl KC2.out ?_) | (refine store_st_cell rfl _ _ rfl P m s H6.out c.st c.d rfl rfl KP2.out ?_; generalize w2.setCells P (5 + s * 2) [.int .i64 c.st, .string c.d] = w3 at *))
      clear KP2 KC2 KU2 V2 G2 KV
      have CS2 := Lib.hid (CS.out w3 V3.out)
      obtain ⟨m2, hm2⟩ : ∃ m2, m2 = stP m s c := ⟨_, rfl⟩
      have MP2 := Lib.hid (show m2.p = putC p s c ∧ m2.id = (id : Nat) from by rw [hm2]; exact ⟨MP.out.2.2, MP.out.2.1⟩)
      rw [← hm2] at KP3
      have x0 : w3.cell? ⟨P, 0, none⟩ = some (.int .i64 (id : Nat)) := by rw [← MP2.out.2]; exact KP3.out.cell 0
      clear hm2
      as_aux_lemma =>
        go_wp2_with (refine load_st_page rfl _ rfl P m2 rfl KP3.out ?_; rw [MP2.out.1])
        refine CS2.out.mono ?_
        rintro e w4 ⟨rfl, hsv, hg⟩
        have V4 := Lib.hid hsv
        have G4 := Lib.hid (only_trans G3.out hg)
        have KU4 := Lib.hid (KU3.out.grown hg (fun e => by have := SZ.out; have := NEG.out; injection e with e; omega))
        have KV4 := Lib.hid (KV3.out.grown hg (fun e => by have := VZ.out; have := NEG.out; injection e with e; omega))
        have V5 := Lib.hid (show SV (w4.setRow U u.cs) B g b gs r N (M + 1) und (upd pg id (putC p s c)) from V4.out.grown (row := some U) (only_row w4 U _) (fun k hk => by cases hk; have := SZ.out; have := NEG.out; omega))
        have G5 := Lib.hid (only_setRow G4.out (show w.heap.size ≤ U by have := SZ.out; omega) u.cs)
        have KU5 := Lib.hid (ud_bk (p := u) KU4.out)
        clear hsv hg KP3 KU3 KV3 V3 G3 CS CS2 x0
        as_aux_lemma =>
          go_wp2_with (first | (refine load_ud rfl _ rfl V u rfl KV4.out ?_) | (refine store_ud rfl _ _ rfl U u ud0 rfl rfl KU4.out ?_; generalize w4.setRow U u.cs = w5 at *))
          refine bodyPost_ret (ud_ct rfl _ _ U u KU5.out rfl) rfl ?_
          exact ⟨rfl, V5.out, G5.out⟩
end Go.Proofs.YtelbioooggnbiaaGreat
namespace Go.Proofs.YtelbioooggnbiaaGreat
open Go.RowKit Go.Maps

section
variable {pg : Nat → Pg} {n : Nat} {ow : Nat → Option Int} {sn : Int} {rt H : Nat} {lf ids : List Nat} {R : List (ByteArray × Ce)} {ff : Prop}
theorem rows_eq (p : Pg) : (ndOf p).rows = rowsF (cnt p.c) (fun q => (p.c q).key) p.c := rfl
theorem nrow {p : Pg} {x : ByteArray × Ce} : x ∈ (ndOf p).rows ↔ ∃ q, q < cnt p.c ∧ x = ((p.c q).key, p.c q) := rowsF_mem
theorem Ix.sorted (h : Ix pg n ow sn rt H lf ids R ff) : R.Pairwise fun x y => kL x.1 y.1 := h.tr.sorted kOrd
/-- Each row is a live key's, or a ghost's. -/
theorem Ix.row (h : Ix pg n ow sn rt H lf ids R ff) {x : ByteArray × Ce} (hx : x ∈ R) : x.2.key = x.1 ∧ leafCellOk x.2 := by
  rw [h.tr.leaves.1] at hx
  obtain ⟨i, hi, hx⟩ := List.mem_flatMap.1 hx
  obtain ⟨h1, h2⟩ := h.lf_mem hi
  obtain ⟨q, hq, rfl⟩ := rowsF_mem.1 (show x ∈ rowsF (cnt (pg i).c) (fun q => ((pg i).c q).key) (pg i).c from hx)
  exact ⟨rfl, (cellOk_leaf h2).1 (node_cell (h.pgs i h1).nd q hq)⟩
theorem Ix.leaf_l (h : Ix pg n ow sn rt H lf ids R ff) (k : ByteArray) : (pg (dn pg k rt H)).l = 0 := by
  have := (h.at_ k H (Nat.le_refl _)).2.2
  rw [this, Nat.sub_self]; rfl
/-- Is a key present? -/
theorem Ix.there (h : Ix pg n ow sn rt H lf ids R ff) (k : ByteArray) (c : Ce) : (k, c) ∈ R ↔ fThere (pg (dn pg k rt H)) k = true ∧ c = (pg (dn pg k rt H)).c (fAt (pg (dn pg k rt H)) k) := by
  obtain ⟨u, v, -, e2, hA, hB⟩ := h.leaf k
  have hp := (h.pgs _ (h.at_ k H (Nat.le_refl _)).2.1).nd
  generalize pg (dn pg k rt H) = p at *
  rw [e2, rows_eq, rows_there kOrd hA hB]
  constructor
  · rintro ⟨q, hq, h1, h2⟩
    have := leaf_place hp hq h1
    exact ⟨(leaf_there hp k).2 ⟨q, hq, h1⟩, by rw [← this]; exact h2.symm⟩
  · rintro ⟨h1, h2⟩
    obtain ⟨q, hq, h3⟩ := (leaf_there hp k).1 h1
    have := leaf_place hp hq h3
    exact ⟨q, hq, h3, by rw [h2, ← this]⟩
/-- Rows with a key's cell another one. -/
def RSet (R R' : List (ByteArray × Ce)) (k : ByteArray) (c : Ce) : Prop := ∀ x, x ∈ R' ↔ x = (k, c) ∨ (x ∈ R ∧ x.1 ≠ k)
theorem putC_nd {p : Pg} (h : nodeOk p) (hl : p.l = 0) {i : Nat} (hi : i < cnt p.c) {c : Ce} (hc : leafCellOk c) (hk : c.key = (p.c i).key) : nodeOk (putC p i c) ∧ cnt (putC p i c).c = cnt p.c := by
  have hn := cnt_le p.c
  have e : ∀ q, ((putC p i c).c q).key = (p.c q).key := fun q => by
    show (if q = i then c else p.c q).key = _
    by_cases h : q = i
    · rw [if_pos h, hk, h]
    · rw [if_neg h]
  have := mk_node (putC p i c) (cnt p.c) hn h.1.1 h.1.2.1 h.1.2.2 (fun q hq => by
    rw [cellOk_leaf (show (putC p i c).l = 0 from hl)]
    show leafCellOk (if q = i then c else p.c q)
    by_cases h2 : q = i
    · rw [if_pos h2]; exact hc
    · rw [if_neg h2]; exact (cellOk_leaf hl).1 (node_cell h q hq)) (fun q h1 h2 => by
    show (if q = i then c else p.c q).st = 0 ∧ (if q = i then c else p.c q).d.size = 0
    rw [if_neg (by omega)]
    exact node_free h q h1 h2) (fun q hq => by rw [e, e]; exact sorted_lt p h q (q + 1) (by omega) hq)
  exact ⟨nodeOk_of this.1, this.2⟩
/-- A key's cell is another one. -/
theorem Ix.set (h : Ix pg n ow sn rt H lf ids R ff) (k : ByteArray) (ht : fThere (pg (dn pg k rt H)) k = true) {c : Ce} (hc : leafCellOk c) (hk : c.key = k) :
    ∃ R', Ix (upd pg (dn pg k rt H) (putC (pg (dn pg k rt H)) (fAt (pg (dn pg k rt H)) k) c)) n ow sn rt H lf ids R' ff ∧ RSet R R' k c := by
  obtain ⟨u, v, e1, e2, hA, hB⟩ := h.leaf k
  obtain ⟨-, hm, -⟩ := h.at_ k H (Nat.le_refl _)
  have hp := h.pgs _ hm
  have hl := h.leaf_l k
  obtain ⟨q, hq, h3⟩ := (leaf_there hp.nd k).1 ht
  have hqa := leaf_place hp.nd hq h3
  rw [← hqa]
  obtain ⟨n1, n2⟩ := putC_nd hp.nd hl hq hc (hk.trans h3.symm)
  have cok : c.ok := by
    have := node_c_ok n1 q (by have := cnt_le (pg (dn pg k rt H)).c; have : q < cnt (pg (dn pg k rt H)).c := hq; omega)
    have e : (putC (pg (dn pg k rt H)) q c).c q = c := if_pos rfl
    rwa [e] at this
  have ck : ∀ r, ((putC (pg (dn pg k rt H)) q c).c r).key = ((pg (dn pg k rt H)).c r).key := fun r => by
    show (if r = q then c else (pg (dn pg k rt H)).c r).key = _
    by_cases e : r = q
    · rw [if_pos e, hk, e]; exact h3.symm
    · rw [if_neg e]
  have S := h.swap k (putC (pg (dn pg k rt H)) q c) (ff' := ff) n1 hl (putC_ok2 hp.ok q c cok) hp.s rfl (fun r hr => ⟨r, by rw [n2] at hr; exact hr, ck r⟩) (fun hf => ⟨hf, Nat.le_of_eq n2.symm⟩) e1
  refine ⟨_, S, fun x => ?_⟩
  rw [e2]
  have so := nd_so hp.nd
  constructor
  · intro hx
    rcases List.mem_append.1 hx with hx | hx
    · rcases List.mem_append.1 hx with hx | hx
      · refine .inr ⟨List.mem_append_left _ (List.mem_append_left _ hx), fun e => ?_⟩
        have := hA x hx
        rw [e] at this
        exact kOrd.irr _ this
      · obtain ⟨r, hr, rfl⟩ := nrow.1 hx
        rw [n2] at hr
        by_cases e : r = q
        · left
          subst e
          have e5 : (putC (pg (dn pg k rt H)) r c).c r = c := if_pos rfl
          rw [e5, hk]
        · right
          have e5 : (putC (pg (dn pg k rt H)) q c).c r = (pg (dn pg k rt H)).c r := if_neg e
          rw [e5]
          refine ⟨List.mem_append_left _ (List.mem_append_right _ (nrow.2 ⟨r, hr, rfl⟩)), fun e6 => e ?_⟩
          rw [leaf_place hp.nd hr e6, hqa]
    · refine .inr ⟨List.mem_append_right _ hx, fun e => ?_⟩
      have := hB x hx
      rw [e] at this
      exact kOrd.irr _ this
  · rintro (rfl | ⟨hx, hne⟩)
    · refine List.mem_append_left _ (List.mem_append_right _ (nrow.2 ⟨q, by rw [n2]; exact hq, ?_⟩))
      have e5 : (putC (pg (dn pg k rt H)) q c).c q = c := if_pos rfl
      rw [e5, hk]
    · rcases List.mem_append.1 hx with hx | hx
      · rcases List.mem_append.1 hx with hx | hx
        · exact List.mem_append_left _ (List.mem_append_left _ hx)
        · obtain ⟨r, hr, rfl⟩ := nrow.1 hx
          have e : r ≠ q := fun e => hne (by rw [e]; exact h3)
          refine List.mem_append_left _ (List.mem_append_right _ (nrow.2 ⟨r, by rw [n2]; exact hr, ?_⟩))
          have e5 : (putC (pg (dn pg k rt H)) q c).c r = (pg (dn pg k rt H)).c r := if_neg e
          rw [e5]
      · exact List.mem_append_right _ hx
end
section
variable {pg : Nat → Pg} {n : Nat} {st : Nat → Int} {kd rt : Nat → Nat} {ow : Nat → Option Int} {sn H : Nat} {lf ids : List Nat} {R : List (ByteArray × Ce)} {ff : Prop}
theorem Tv.set (h : Tv pg n st kd rt ow sn H lf ids R ff) (k : ByteArray) (ht : fThere (pg (dn pg k (rt (sn - 1)) H)) k = true) {c : Ce} (hc : leafCellOk c) (hk : c.key = k) :
    ∃ R', Tv (upd pg (dn pg k (rt (sn - 1)) H) (putC (pg (dn pg k (rt (sn - 1)) H)) (fAt (pg (dn pg k (rt (sn - 1)) H)) k) c)) n st kd rt ow sn H lf ids R' ff ∧ RSet R R' k c := by
  obtain ⟨R', h1, h2⟩ := h.ix.set k ht hc hk
  have hp := h.ix.pgs _ (h.ix.at_ k H (Nat.le_refl _)).2.1
  exact ⟨R', ⟨h.vol.relay _ hp.two _ (by rw [hp.ow]; show some (sn : Int) = some (pg _).s; rw [hp.s]), h.s1, h.st, h.kd, h1⟩, h2⟩
end
theorem leaf_cell_ok {k v : ByteArray} {s : Int} (hk : keyOk k) (hv : v.size ≤ 20) (hs : s = 1 ∨ s = 2) : leafCellOk ⟨s, dat k v⟩ ∧ Ce.key ⟨s, dat k v⟩ = k ∧ Ce.rst ⟨s, dat k v⟩ = v := by
  obtain ⟨h1, h2, h3⟩ := ce_says s k v (by omega) hk.2
  exact ⟨⟨h1, by rw [h2]; have := hk.1; omega, by rw [h3]; exact hv, hs⟩, h2, h3⟩
theorem ghost_ok {c : Ce} (h : leafCellOk c) : leafCellOk (ghostC c) ∧ (ghostC c).key = c.key ∧ (ghostC c).rst = c.rst := by
  have hs : (ghostC c).says := ⟨by show (2 : Int) ≠ 0; decide, h.1.2⟩
  have e1 : (ghostC c).key = c.key := by rw [Ce.key_yes hs, Ce.key_yes h.1]; rfl
  have e2 : (ghostC c).rst = c.rst := by rw [Ce.rst_yes hs, Ce.rst_yes h.1]; rfl
  exact ⟨⟨hs, by rw [e1]; exact h.2.1, by rw [e2]; exact h.2.2.1, .inr rfl⟩, e1, e2⟩
end Go.Proofs.YtelbioooggnbiaaGreat
