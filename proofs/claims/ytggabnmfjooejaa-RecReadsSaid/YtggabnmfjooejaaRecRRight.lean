/- The walks of the reference's in, text, Right. -/
import Derived.Test.YtggabnmfjooejaaRecSame2
import Derived.Test.YtggabnmfjooejaaPgRRight
import Derived.Deep.CutBlock
set_option linter.unusedVariables false
set_option linter.unusedSimpArgs false
namespace Go.Proofs.Ytggabnmfjooejaa
open Go.RowKit Go.BigFrame

def isIn (n m : Int) : Prop := 0 ≤ n ∧ n ≤ m
instance (n m : Int) : Decidable (isIn n m) := by unfold isIn; infer_instance
set_option maxHeartbeats 400000 in
theorem rin_any (n m : Int) (w : World) :
    Calls Try.prog 27 #[.int .i64 n, .int .i64 m] w fun e w' => e = .returned (.bool (decide (isIn n m))) ∧ w' = w := by
  by_cases h : isIn n m
  · rw [decide_eq_true h]
    obtain ⟨h1, h2⟩ := h
    go_enter Try.func27, Try.ntmps27
    go_wp2
    go_ret
    exact ⟨rfl, rfl⟩
  · rw [decide_eq_false h]
    rcases (show n < 0 ∨ (0 ≤ n ∧ ¬ n ≤ m) by unfold isIn at h; omega) with h1 | ⟨h1, h2⟩
    all_goals
      clear h
      go_enter Try.func27, Try.ntmps27
      go_wp2
      go_ret
      first
        | exact ⟨rfl, rfl⟩
        | exact ⟨congrArg (fun b => Ending.returned (Value.bool b)) (decide_eq_false h2), rfl⟩
theorem rtext6_any (s : ByteArray) (w : World) (h : s.size ≤ 255) :
    Calls Try.prog 20 #[.string s] w fun e w' => e = .returned (.string (Oct.text s)) ∧ Below w.heap.size w w' := by
  have C := Lib.hid (rtext_fits s w h)
  go_enter Try.func20, Try.ntmps20
  go_wp2_with fail
  refine C.out.mono ?_
  rintro e w1 ⟨rfl, hb⟩
  have HB := Lib.hid hb; clear hb
  go_wp2
  go_ret
  exact ⟨rfl, HB.out⟩
/-- A whole value stored into a new block. -/
theorem store_fresh {ops : Array Oper} {rest : List Oper} {o : Oper} {a : Act} {w : World} {Q : Exit → Act → World → Prop} (ty : TypeId) (zs cs : Array Value) (g : Nat) (hg : g = w.heap.size) (hgd : o.guard = none ∧ o.dst = none) (x y : Operand) (ho : o.op = .store ty x y) (hi : (Try.prog.info? ty).map (·.size) = some cs.size) (hz : zs.size = cs.size) (h1 : cs.all (·.oneCell') = true)
    (hx : a.eval x = .pointer (some ⟨g, 0, none⟩)) (hy : a.eval y = .agg cs) (h : wpList Try.prog ops Q rest a (w.alloc (.cells cs ty))) : wpList Try.prog ops Q (o :: rest) a (w.alloc (.cells zs ty)) := by
  subst hg
  refine wpList_store_row hgd.1 ty x y ho w.heap.size cs hx hy ty zs (Bk.new _ _ _) hi hz h1 ?_
  rw [World.setRow_alloc_new, hgd.2]
  exact h
theorem undo_info : (Try.prog.info? 25).map (·.size) = some 7 := by kernel_rfl

set_option maxRecDepth 100000 in
set_option maxHeartbeats 4000000 in
theorem rright6_any (r : Rc) (vi vl : Value) (w : World) (hI : ImAt w w.heap.size vi r.ni r.im) (hL : AlAt w w.heap.size vl r.nl r.al) :
    Calls Try.prog 12 #[.agg (r.cs vi vl)] w fun e w' => ((e = .returned (.bool true) ∧ r.ok) ∨ (e = .returned (.bool false) ∧ ¬ r.ok)) ∧ Below w.heap.size w w' := by
  have C1 := Lib.hid (fun w => rin_any r.x 2147483647 w); have C2 := Lib.hid (fun w => rin_any r.fr 2147483647 w); have C3 := Lib.hid (fun w => rin_any r.pv 1099511627776 w); have C4 := Lib.hid (fun w => rin_any r.nx 1099511627776 w)
  have D1 := Lib.hid (fun w => rin_any r.u.k 3 w); have D2 := Lib.hid (fun w => rin_any r.u.st 6 w); have D3 := Lib.hid (fun w => rin_any r.u.pg 1023 w); have D4 := Lib.hid (fun w => rin_any r.u.sl 5 w); have D5 := Lib.hid (fun w => rin_any r.u.bs 2 w)
  have HI := Lib.hid hI; have HL := Lib.hid hL
  have OKI := Lib.hid (show r.ok ↔ (1 ≤ r.k ∧ r.k ≤ 6 ∧ isIn r.x 2147483647 ∧ isIn r.fr 2147483647) ∧ (isIn r.pv 1099511627776 ∧ isIn r.nx 1099511627776) ∧ (isIn r.u.k 3 ∧ isIn r.u.st 6 ∧ isIn r.u.pg 1023 ∧ isIn r.u.sl 5 ∧ r.u.key.size ≤ 8 ∧ isIn r.u.bs 2 ∧ r.u.bd.size ≤ 34) ∧ (r.ni ≤ 24 ∧ r.nl ≤ 8) ∧ (∀ i, i < r.ni → (r.im i).ok) ∧ ∀ i, i < r.nl → (r.al i).ok from by
    unfold Rc.ok Un.ok isNum isPl isPgn isIn
    constructor
    · rintro ⟨⟨a1, a2, a3, a4⟩, ⟨b1, b2, c1, c2, c3, c4, ⟨c5, c6⟩, c7, c8, c9, c10, c11, c12⟩, d, e, f⟩
      exact ⟨⟨a1, a2, a3, a4⟩, ⟨b1, b2⟩, ⟨⟨c1, c2⟩, ⟨c3, c4⟩, ⟨c5, by omega⟩, ⟨c7, by omega⟩, c9, ⟨c10, c11⟩, c12⟩, d, e, f⟩
    · rintro ⟨⟨a1, a2, a3, a4⟩, ⟨b1, b2⟩, ⟨⟨c1, c2⟩, ⟨c3, c4⟩, ⟨c5, c6⟩, ⟨c7, c8⟩, c9, ⟨c10, c11⟩, c12⟩, d, e, f⟩
      exact ⟨⟨a1, a2, a3, a4⟩, ⟨b1, b2, c1, c2, c3, c4, ⟨c5, by omega⟩, c7, by omega, c9, c10, c11, c12⟩, d, e, f⟩)
  obtain ⟨ai, ci, rfl, hmi, _⟩ := hI
  obtain ⟨al, cl, rfl, hml, _⟩ := hL
  simp only [maxLen] at hmi hml
  have KA := Lib.hid ((Bk.new w 29 (r.cs (.slice ai r.ni ci) (.slice al r.nl cl))).alloc (.cells r.u.cs 25))
  have KR := Lib.hid (Bk.new w 29 (r.cs (.slice ai r.ni ci) (.slice al r.nl cl)))
  have KU := Lib.hid (Bk.new2 w (.cells (r.cs (.slice ai r.ni ci) (.slice al r.nl cl)) 29) 25 r.u.cs)
  have B0 := Lib.hid (((Below.refl w.heap.size w).alloc (Nat.le_refl _) (.cells (r.cs (.slice ai r.ni ci) (.slice al r.nl cl)) 29)).alloc (by simp) (.cells r.u.cs 25))
  generalize hcs : r.cs (.slice ai r.ni ci) (.slice al r.nl cl) = cs at *
  have hcs' := hcs
  have HCS := Lib.hid hcs'
  unfold Rc.cs at hcs
  subst hcs
  clear hcs'
  generalize hOK : r.ok = OK at OKI ⊢
  clear hOK
  go_enter Try.func12, Try.ntmps12
  have hk := Int.lt_or_le r.k 1
  have hk' := Int.lt_or_le 6 r.k
  have TOK : True := trivial
  go_upto_region 2 with ((first
    | (have _t := TOK; refine wpList_load_part 25 _ rfl (by first | rfl | kernel_rfl) w.heap.size 4 r.u.cs rfl (rc_undo (by have := KR.out; rw [← HCS.out] at this; exact this)) ?_; clear TOK _t)
    | (refine store_fresh 25 _ r.u.cs (w.heap.size + 1) (by simp) ⟨rfl, rfl⟩ _ _ rfl undo_info rfl (by simp [Value.oneCell', Un.cs]) rfl rfl ?_)))
  generalize ((w.alloc _).alloc _) = w0 at *
  have x0 := KA.out.cell 0; have x1 := KA.out.cell 1; have x2 := KA.out.cell 2; have x3 := KA.out.cell 3; have x13 := KA.out.cell 13
  simp only [List.getElem?_toArray, List.getElem?_cons_zero, List.getElem?_cons_succ] at x0 x1 x2 x3 x13
  rcases hk with hk | hk
  · go_wp2
    go_ret
    exact ⟨.inr ⟨rfl, fun g => by have := (OKI.out.1 g).1.1; omega⟩, B0.out⟩
  rcases hk' with hk' | hk'
  · go_wp2
    go_ret
    exact ⟨.inr ⟨rfl, fun g => by have := (OKI.out.1 g).1.2.1; omega⟩, B0.out⟩
  have HK := Lib.hid hk; have HK' := Lib.hid hk'
  go_wp2_with fail
  refine (C1.out _).mono ?_
  rintro e w1 ⟨rfl, hw⟩
  obtain rfl : w0 = w1 := hw.symm
  by_cases h : isIn r.x 2147483647
  case neg =>
    rw [decide_eq_false h]
    have H := Lib.hid h
    clear h
    go_wp2
    go_ret
    exact ⟨.inr ⟨rfl, fun g => H.out (OKI.out.1 g).1.2.2.1⟩, B0.out⟩
  rw [decide_eq_true h]
  have H1 := Lib.hid h
  clear h
  go_wp2_with fail
  refine (C2.out _).mono ?_
  rintro e w1 ⟨rfl, hw⟩
  obtain rfl : w0 = w1 := hw.symm
  by_cases h : isIn r.fr 2147483647
  case neg =>
    rw [decide_eq_false h]
    have H := Lib.hid h
    clear h
    go_wp2
    go_ret
    exact ⟨.inr ⟨rfl, fun g => H.out (OKI.out.1 g).1.2.2.2⟩, B0.out⟩
  rw [decide_eq_true h]
  have H2 := Lib.hid h
  clear h
  go_wp2_with fail
  refine (C3.out _).mono ?_
  rintro e w1 ⟨rfl, hw⟩
  obtain rfl : w0 = w1 := hw.symm
  by_cases h : isIn r.pv 1099511627776
  case neg =>
    rw [decide_eq_false h]
    have H := Lib.hid h
    clear h
    go_wp2
    go_ret
    exact ⟨.inr ⟨rfl, fun g => H.out (OKI.out.1 g).2.1.1⟩, B0.out⟩
  rw [decide_eq_true h]
  have H3 := Lib.hid h
  clear h
  go_wp2_with fail
  refine (C4.out _).mono ?_
  rintro e w1 ⟨rfl, hw⟩
  obtain rfl : w0 = w1 := hw.symm
  by_cases h : isIn r.nx 1099511627776
  case neg =>
    rw [decide_eq_false h]
    have H := Lib.hid h
    clear h
    go_wp2
    go_ret
    exact ⟨.inr ⟨rfl, fun g => H.out (OKI.out.1 g).2.1.2⟩, B0.out⟩
  rw [decide_eq_true h]
  have H4 := Lib.hid h
  clear h
  have y0 : w0.cell? ⟨w.heap.size + 1, 0, none⟩ = some (.int .i64 r.u.k) := KU.out.cell 0; have y1 : w0.cell? ⟨w.heap.size + 1, 1, none⟩ = some (.int .i64 r.u.st) := KU.out.cell 1; have y2 : w0.cell? ⟨w.heap.size + 1, 2, none⟩ = some (.int .i64 r.u.pg) := KU.out.cell 2; have y3 : w0.cell? ⟨w.heap.size + 1, 3, none⟩ = some (.int .i64 r.u.sl) := KU.out.cell 3
  have y4 : w0.cell? ⟨w.heap.size + 1, 4, none⟩ = some (.string r.u.key) := KU.out.cell 4; have y5 : w0.cell? ⟨w.heap.size + 1, 5, none⟩ = some (.int .i64 r.u.bs) := KU.out.cell 5; have y6 : w0.cell? ⟨w.heap.size + 1, 6, none⟩ = some (.string r.u.bd) := KU.out.cell 6
  go_wp2_with fail
  refine (D1.out _).mono ?_
  rintro e w1 ⟨rfl, hw⟩
  obtain rfl : w0 = w1 := hw.symm
  by_cases h : isIn r.u.k 3
  case neg =>
    rw [decide_eq_false h]
    have H := Lib.hid h
    clear h
    go_wp2
    go_ret
    exact ⟨.inr ⟨rfl, fun g => H.out (OKI.out.1 g).2.2.1.1⟩, B0.out⟩
  rw [decide_eq_true h]
  have G1 := Lib.hid h
  clear h
  go_wp2_with fail
  refine (D2.out _).mono ?_
  rintro e w1 ⟨rfl, hw⟩
  obtain rfl : w0 = w1 := hw.symm
  by_cases h : isIn r.u.st 6
  case neg =>
    rw [decide_eq_false h]
    have H := Lib.hid h
    clear h
    go_wp2
    go_ret
    exact ⟨.inr ⟨rfl, fun g => H.out (OKI.out.1 g).2.2.1.2.1⟩, B0.out⟩
  rw [decide_eq_true h]
  have G2 := Lib.hid h
  clear h
  go_wp2_with fail
  refine (D3.out _).mono ?_
  rintro e w1 ⟨rfl, hw⟩
  obtain rfl : w0 = w1 := hw.symm
  by_cases h : isIn r.u.pg 1023
  case neg =>
    rw [decide_eq_false h]
    have H := Lib.hid h
    clear h
    go_wp2
    go_ret
    exact ⟨.inr ⟨rfl, fun g => H.out (OKI.out.1 g).2.2.1.2.2.1⟩, B0.out⟩
  rw [decide_eq_true h]
  have G3 := Lib.hid h
  clear h
  go_wp2_with fail
  refine (D4.out _).mono ?_
  rintro e w1 ⟨rfl, hw⟩
  obtain rfl : w0 = w1 := hw.symm
  by_cases h : isIn r.u.sl 5
  case neg =>
    rw [decide_eq_false h]
    have H := Lib.hid h
    clear h
    go_wp2
    go_ret
    exact ⟨.inr ⟨rfl, fun g => H.out (OKI.out.1 g).2.2.1.2.2.2.1⟩, B0.out⟩
  rw [decide_eq_true h]
  have G4 := Lib.hid h
  clear h
  by_cases hky : (8 : Int) < (r.u.key.size : Int)
  case pos =>
    go_wp2
    go_ret
    exact ⟨.inr ⟨rfl, fun g => by have := (OKI.out.1 g).2.2.1.2.2.2.2.1; omega⟩, B0.out⟩
  go_wp2_with fail
  refine (D5.out _).mono ?_
  rintro e w1 ⟨rfl, hw⟩
  obtain rfl : w0 = w1 := hw.symm
  by_cases h : isIn r.u.bs 2
  case neg =>
    rw [decide_eq_false h]
    have H := Lib.hid h
    clear h
    go_wp2
    go_ret
    exact ⟨.inr ⟨rfl, fun g => H.out (OKI.out.1 g).2.2.1.2.2.2.2.2.1⟩, B0.out⟩
  rw [decide_eq_true h]
  have G5 := Lib.hid h
  clear h
  by_cases hbd : (34 : Int) < (r.u.bd.size : Int)
  case pos =>
    go_wp2
    go_ret
    exact ⟨.inr ⟨rfl, fun g => by have := (OKI.out.1 g).2.2.1.2.2.2.2.2.2; omega⟩, B0.out⟩
  have x11 := KA.out.cell 11; have x12 := KA.out.cell 12
  simp only [List.getElem?_toArray, List.getElem?_cons_zero, List.getElem?_cons_succ] at x11 x12
  by_cases hni : (24 : Int) < (r.ni : Int)
  case pos =>
    go_wp2
    go_ret
    exact ⟨.inr ⟨rfl, fun g => by have := (OKI.out.1 g).2.2.2.1.1; omega⟩, B0.out⟩
  by_cases hnl : (8 : Int) < (r.nl : Int)
  case pos =>
    go_wp2
    go_ret
    exact ⟨.inr ⟨rfl, fun g => by have := (OKI.out.1 g).2.2.2.1.2; omega⟩, B0.out⟩
  have HEAD := Lib.hid (show (r.ni ≤ 24 ∧ r.nl ≤ 8) ∧ r.u.key.size ≤ 8 ∧ r.u.bd.size ≤ 34 from ⟨⟨by omega, by omega⟩, by omega, by omega⟩)
  have OKT := Lib.hid (show OK ↔ (∀ i, i < r.ni → (r.im i).ok) ∧ ∀ i, i < r.nl → (r.al i).ok from ⟨fun g => (OKI.out.1 g).2.2.2.2, fun g => OKI.out.2 ⟨⟨HK.out, by have := HK'.out; omega, H1.out, H2.out⟩, ⟨H3.out, H4.out⟩, ⟨G1.out, G2.out, G3.out, G4.out, HEAD.out.2.1, G5.out, HEAD.out.2.2⟩, HEAD.out.1, g⟩⟩)
  go_wp2_with fail
  clear x0 x1 x2 x3 x13 y0 y1 y2 y3 y4 y5 y6 x11 x12 hky hbd hni hnl HK HK' H1 H2 H3 H4 G1 G2 G3 G4 G5 hk hk' OKI C1 C2 C3 C4 D1 D2 D3 D4 D5 KU KR HCS
  go_loopw [4] (fun i wr => ∃ j : Nat, j ≤ r.ni ∧ i = .int .i64 j ∧ (∀ q, q < j → (r.im q).ok) ∧ Below w.heap.size w wr ∧ Below w0.heap.size w0 wr) (fun i _ => r.ni - (intOf i).toNat)
  case atStart => exact ⟨0, Nat.zero_le _, rfl, (fun q hq => absurd hq (Nat.not_lt_zero _)), B0.out, Below.refl _ _⟩
  case round =>
    obtain ⟨j, hj, rfl, hall, hb, hb'⟩ := hrel
    have KA' := Lib.hid (KA.out.kept hb')
    have HB := Lib.hid hb; have HB' := Lib.hid hb'; have ALL := Lib.hid hall
    have x11 := KA'.out.cell 11
    simp only [List.getElem?_toArray, List.getElem?_cons_zero, List.getElem?_cons_succ] at x11
    clear hb hb' hall B0
    by_cases hlt : j < r.ni
    · obtain ⟨_, _, e1, _, hx⟩ := HI.out
      obtain ⟨b, off, rfl, hbB, hcell⟩ := hx (by omega)
      obtain ⟨rfl, rfl⟩ : ai = some ⟨b, off, none⟩ ∧ ci = _ := by simpa using e1
      have y0 : wr.cell? ⟨b, off + j * 17, none⟩ = some (.int .i64 (r.im j).id) := by rw [HB.out.cell (p := ⟨b, off + j * 17, none⟩) hbB]; exact hcell j hlt 0 _ rfl
      have hpg : (loadVar 49 ⟨b, off + j * 17 + 1, none⟩).run Try.prog wr = .ok (.agg (r.im j).p.cs) wr :=
        part_load Try.underlying49 wr b (off + j * 17 + 1) (r.im j).p.cs page_info fun q u hq => by
          rw [HB.out.cell (p := ⟨b, off + j * 17 + 1 + q, none⟩) hbB, Nat.add_assoc (off + j * 17)]
          refine hcell j hlt (1 + q) u ?_
          have e : (r.im j).cs = (Value.int .i64 (r.im j).id :: (r.im j).p.cs.toList).toArray := rfl
          rw [e, Nat.add_comm]
          simpa using hq
      have HPG := Lib.hid hpg
      have STEP := Lib.hid (fun (h : (r.im j).ok) (q : Nat) (hq : q < j + 1) => show (r.im q).ok by
        rcases Nat.lt_or_ge q j with h1 | h1
        · exact ALL.out q h1
        · obtain rfl : q = j := by omega
          exact h)
      have BAD := Lib.hid (fun (h : ¬ (r.im j).ok) => show ¬ OK from fun hf => h ((OKT.out.1 hf).1 j hlt))
      have CI := Lib.hid (fun w => rin_any (r.im j).id 1023 w)
      have cp := fun w => rright_any (r.im j).p w
      unfold Pg.v at cp
      have CP := Lib.hid cp
      clear hcell hpg hx e1 cp ALL
      generalize r.im j = m at *
      have HLT := Lib.hid hlt
      have hj0 : (0 : Int) ≤ (j : Int) := by omega
      have hjl : (j : Int) < (r.ni : Int) := by omega
      go_wp2_with fail
      refine (CI.out _).mono ?_
      rintro e w1 ⟨rfl, hw⟩
      obtain rfl : wr = w1 := hw.symm
      by_cases hid : isIn m.id 1023
      case neg =>
        rw [decide_eq_false hid]
        have BD := Lib.hid (BAD.out (fun h => hid ⟨h.1.1, by have := h.1.2; omega⟩))
        clear hid
        go_wp2
        go_ret
        exact ⟨.inr ⟨rfl, BD.out⟩, HB.out⟩
      rw [decide_eq_true hid]
      have HID := Lib.hid hid
      clear hid
      go_wp2_with (refine wpList_load_part 49 _ rfl (by first | rfl | kernel_rfl) b (off + j * 17 + 1) m.p.cs rfl HPG.out ?_)
      refine (CP.out _).mono ?_
      rintro e w2 ⟨rfl, hb2⟩
      have HB2 := Lib.hid (below_then HB.out hb2 HB.out.size); have HB2' := Lib.hid (below_then HB'.out hb2 HB'.out.size)
      clear hb2 y0 x11
      by_cases hok : m.p.ok
      · rw [decide_eq_true hok]
        have ST := Lib.hid (STEP.out ⟨⟨HID.out.1, by have := HID.out.2; omega⟩, hok⟩)
        clear hok
        go_wp2
        go_roundw
        case rel => exact ⟨j + 1, by have := HLT.out; omega, by go_num, ST.out, HB2.out, HB2'.out⟩
        case measure => have := HLT.out; simp [intOf]; omega
      · rw [decide_eq_false hok]
        have BD := Lib.hid (BAD.out (fun h => hok h.2))
        clear hok
        go_wp2
        go_ret
        exact ⟨.inr ⟨rfl, BD.out⟩, HB2.out⟩
    · have x12 := KA'.out.cell 12
      simp only [List.getElem?_toArray, List.getElem?_cons_zero, List.getElem?_cons_succ] at x12
      have HJ := Lib.hid (show j = r.ni by omega)
      go_wp2_with fail
      clear x11 x12
      go_loopw [5] (fun i wr' => ∃ q : Nat, q ≤ r.nl ∧ i = .int .i64 q ∧ (∀ p, p < q → (r.al p).ok) ∧ Below w.heap.size w wr' ∧ Below wr.heap.size wr wr') (fun i _ => r.nl - (intOf i).toNat)
      case atStart => exact ⟨0, Nat.zero_le _, rfl, (fun q hq => absurd hq (Nat.not_lt_zero _)), HB.out, Below.refl _ _⟩
      case round =>
        obtain ⟨q, hq, rfl, hall, hb, hb'⟩ := hrel
        have KA2 := Lib.hid (KA'.out.kept hb')
        have HB2 := Lib.hid hb; have HB2' := Lib.hid hb'; have ALL2 := Lib.hid hall
        have x12 := KA2.out.cell 12
        simp only [List.getElem?_toArray, List.getElem?_cons_zero, List.getElem?_cons_succ] at x12
        clear hb hb' hall
        by_cases hqt : q < r.nl
        · obtain ⟨b, off, cc, e1, hld⟩ := al_at HL.out hqt
          obtain ⟨rfl, rfl⟩ : al = some ⟨b, off, none⟩ ∧ cl = cc := by simpa using e1
          have HLD := Lib.hid (hld _ HB2.out)
          have HQT := Lib.hid hqt
          have STEP := Lib.hid (fun (h : (r.al q).ok) (p : Nat) (hp : p < q + 1) => show (r.al p).ok by
            rcases Nat.lt_or_ge p q with h1 | h1
            · exact ALL2.out p h1
            · obtain rfl : p = q := by omega
              exact h)
          have BAD := Lib.hid (fun (h : ¬ (r.al q).ok) => show ¬ OK from fun hf => h ((OKT.out.1 hf).2 q hqt))
          clear e1 hld ALL2
          generalize r.al q = m at *
          have E1 := Lib.hid (fun w => rin_any m.x 2147483647 w); have E2 := Lib.hid (fun w => rin_any m.f 1099511627776 w); have E3 := Lib.hid (fun w => rin_any m.l 1099511627776 w)
          have hj0 : (0 : Int) ≤ (q : Int) := by omega
          have hjl : (q : Int) < (r.nl : Int) := by omega
          have KL := Lib.hid (Bk.new wr 54 m.cs)
          have HB3 := Lib.hid (HB2.out.alloc HB2.out.size (.cells m.cs 54)); have HB3' := Lib.hid (HB2'.out.alloc HB2'.out.size (.cells m.cs 54))
          go_wp2_with (first
            | (refine wpList_load_part 54 _ rfl (by first | rfl | kernel_rfl) b (off + q * 3) m.cs rfl HLD.out ?_)
            | (refine store_fresh 54 _ m.cs wr.heap.size rfl ⟨rfl, rfl⟩ _ _ rfl alive_info rfl (by simp [Value.oneCell', Al.cs]) rfl rfl ?_; generalize (wr.alloc (.cells m.cs 54)) = w3 at KL HB3 HB3' ⊢; have z0 : w3.cell? ⟨wr.heap.size, 0, none⟩ = some (.int .i64 m.x) := KL.out.cell 0; have z1 : w3.cell? ⟨wr.heap.size, 1, none⟩ = some (.int .i64 m.f) := KL.out.cell 1; have z2 : w3.cell? ⟨wr.heap.size, 2, none⟩ = some (.int .i64 m.l) := KL.out.cell 2))
          refine (E1.out _).mono ?_
          rintro e w1 ⟨rfl, hw⟩
          obtain rfl : w3 = w1 := hw.symm
          by_cases h : isIn m.x 2147483647
          case neg =>
            rw [decide_eq_false h]
            have BD := Lib.hid (BAD.out (fun g => h g.1))
            clear h
            go_wp2
            go_ret
            exact ⟨.inr ⟨rfl, BD.out⟩, HB3.out⟩
          rw [decide_eq_true h]
          have A1 := Lib.hid h
          clear h
          go_wp2_with fail
          refine (E2.out _).mono ?_
          rintro e w1 ⟨rfl, hw⟩
          obtain rfl : w3 = w1 := hw.symm
          by_cases h : isIn m.f 1099511627776
          case neg =>
            rw [decide_eq_false h]
            have BD := Lib.hid (BAD.out (fun g => h g.2.1))
            clear h
            go_wp2
            go_ret
            exact ⟨.inr ⟨rfl, BD.out⟩, HB3.out⟩
          rw [decide_eq_true h]
          have A2 := Lib.hid h
          clear h
          go_wp2_with fail
          refine (E3.out _).mono ?_
          rintro e w1 ⟨rfl, hw⟩
          obtain rfl : w3 = w1 := hw.symm
          by_cases h : isIn m.l 1099511627776
          case neg =>
            rw [decide_eq_false h]
            have BD := Lib.hid (BAD.out (fun g => h g.2.2))
            clear h
            go_wp2
            go_ret
            exact ⟨.inr ⟨rfl, BD.out⟩, HB3.out⟩
          rw [decide_eq_true h]
          have ST := Lib.hid (STEP.out ⟨A1.out, A2.out, h⟩)
          clear h z0 z1 z2
          go_wp2
          go_roundw
          case rel => exact ⟨q + 1, by have := HQT.out; omega, by go_num, ST.out, HB3.out, HB3'.out⟩
          case measure => have := HQT.out; simp [intOf]; omega
        · have HYES := Lib.hid (show OK from OKT.out.2 ⟨fun i hi => ALL.out i (by have := HJ.out; omega), fun i hi => ALL2.out i (by omega)⟩)
          go_wp2
          go_ret
          exact ⟨.inl ⟨rfl, HYES.out⟩, HB2.out⟩
end Go.Proofs.Ytggabnmfjooejaa
