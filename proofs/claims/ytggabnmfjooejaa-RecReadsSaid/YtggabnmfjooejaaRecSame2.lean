/- The walk of the reference's Same, where the heads are alike. -/
import Derived.Test.YtggabnmfjooejaaRecSame
set_option linter.unusedVariables false
set_option linter.unusedSimpArgs false
namespace Go.Proofs.Ytggabnmfjooejaa
open Go.RowKit Go.BigFrame

theorem q_load {v : World} {o : Oper} {a : Act} {K : Act → Prop} (ty : TypeId) (y : Operand) (ho : o.op = .load ty y) (p : Addr) (u : Value) (hx : a.eval y = .pointer (some p))
    (hr : ∀ x : Kp v, (loadVar ty p).run Try.prog x.1 = .ok u x.1) (h : K (a.put o.dst u)) : o.quiet Try.prog a (fun w' => ∃ x : Kp v, w' = x.1) K := by
  refine kp_run _ (fun x => ?_) h
  unfold execOp
  simp only [ho, hx, Instr.loadAt, Instr.sureAddr, Sem.run_bind, Sem.run_pure, Result.andThen_ok, hr x]
theorem q_neq {v : World} {o : Oper} {a : Act} {K : Act → Prop} (t t' : TypeId) (hg : Try.prog.eqGuardType Try.prog.depth t = false) (y z : Operand) (ho : o.op = .binOp .neq t y z t') (c d : Array Value) (u : Value) (hx : a.eval y = .agg c) (hy : a.eval z = .agg d)
    (hr : ∀ w : World, (binOp .neq t (.agg c) (.agg d)).run Try.prog w = .ok u w) (h : K (a.put o.dst u)) : o.quiet Try.prog a (fun w' => ∃ x : Kp v, w' = x.1) K := by
  refine kp_run _ (fun x => ?_) h
  unfold execOp
  have hh : (eqGuard .neq t y z (.agg c) (.agg d)).run Try.prog x.1 = .ok () x.1 := run_eqGuard_agg _ _ _ _ _ _ _ hg
  simp only [ho, hx, hy, Sem.run_bind, Sem.run_pure, Result.andThen_ok, hr x.1, hh]
theorem ims_load {w : World} {g k : Nat} {v : Value} (h : w.cell? ⟨g, k, none⟩ = some v) : (loadVar 26 ⟨g, k, none⟩).run Try.prog w = .ok v w := by
  simp [loadVar, run_underlying Try.underlying26, h]
theorem als_load {w : World} {g k : Nat} {v : Value} (h : w.cell? ⟨g, k, none⟩ = some v) : (loadVar 27 ⟨g, k, none⟩).run Try.prog w = .ok v w := by
  simp [loadVar, run_underlying Try.underlying27, h]
/-- The i-th image, where it lies. -/
theorem im_at {w : World} {B : Nat} {v : Value} {m : Nat} {im : Nat → Im} (h : ImAt w B v m im) {j : Nat} (hj : j < m) : ∃ b off c, v = .slice (some ⟨b, off, none⟩) m c ∧ ∀ w', Below B w w' → (loadVar 51 ⟨b, off + j * 17, none⟩).run Try.prog w' = .ok (.agg (im j).cs) w' := by
  obtain ⟨a, c, rfl, hm, h⟩ := h
  obtain ⟨b, off, rfl, hbB, hcell⟩ := h (by omega)
  refine ⟨b, off, c, rfl, fun w' hb => ?_⟩
  exact part_load Try.underlying51 w' b (off + j * 17) (im j).cs image_info fun q u hq => by
    rw [hb.cell (p := ⟨b, off + j * 17 + q, none⟩) hbB]; exact hcell j hj q u hq
theorem al_at {w : World} {B : Nat} {v : Value} {m : Nat} {al : Nat → Al} (h : AlAt w B v m al) {j : Nat} (hj : j < m) : ∃ b off c, v = .slice (some ⟨b, off, none⟩) m c ∧ ∀ w', Below B w w' → (loadVar 54 ⟨b, off + j * 3, none⟩).run Try.prog w' = .ok (.agg (al j).cs) w' := by
  obtain ⟨a, c, rfl, hm, h⟩ := h
  obtain ⟨b, off, rfl, hbB, hcell⟩ := h (by omega)
  refine ⟨b, off, c, rfl, fun w' hb => ?_⟩
  exact part_load Try.underlying54 w' b (off + j * 3) (al j).cs alive_info fun q u hq => by
    rw [hb.cell (p := ⟨b, off + j * 3 + q, none⟩) hbB]; exact hcell j hj q u hq

set_option maxRecDepth 100000 in
set_option maxHeartbeats 4000000 in
theorem same_tail (a b : Rc) (via vib vla vlb : Value) (w : World) (h : a.hd b) (hIa : ImAt w w.heap.size via a.ni a.im) (hIb : ImAt w w.heap.size vib b.ni b.im) (hLa : AlAt w w.heap.size vla a.nl a.al) (hLb : AlAt w w.heap.size vlb b.nl b.al) :
    Calls Try.prog 15 #[.agg (a.cs via vla), .agg (b.cs vib vlb)] w fun e w' => ((e = .returned (.bool true) ∧ a.same b) ∨ (e = .returned (.bool false) ∧ ¬ a.same b)) ∧ Below w.heap.size w w' := by
  have SM := Lib.hid (show a.same b ↔ ((∀ i, i < a.ni → imB (a.im i) (b.im i) = true) ∧ ∀ i, i < a.nl → alB (a.al i) (b.al i) = true) from ⟨fun h => h.2, fun g => ⟨h, g⟩⟩)
  have B0 := Lib.hid (((Below.refl w.heap.size w).alloc (Nat.le_refl _) (.cells (a.cs via vla) 29)).alloc (by simp) (.cells (b.cs vib vlb) 29))
  have KA := Lib.hid ((Bk.new w 29 (a.cs via vla)).alloc (.cells (b.cs vib vlb) 29))
  have KB := Lib.hid (Bk.new2 w (.cells (a.cs via vla) 29) 29 (b.cs vib vlb))
  have HUN := Lib.hid (fun w => undo_neq a.u b.u w)
  have IA := Lib.hid hIa; have IB := Lib.hid hIb; have LA := Lib.hid hLa; have LB := Lib.hid hLb
  obtain ⟨ai, ci, rfl, hm1, _⟩ := hIa
  obtain ⟨bi, di, rfl, _, _⟩ := hIb
  obtain ⟨al, cl, rfl, hm2, _⟩ := hLa
  simp only [maxLen] at hm1 hm2
  obtain ⟨bl, dl, rfl, _, _⟩ := hLb
  obtain ⟨k, x, pv, nx, u, ni, im, nl, als, fr⟩ := a
  obtain ⟨k', x', pv', nx', u', ni', im', nl', als', fr'⟩ := b
  obtain ⟨h1, h2, h3, h4, h5, h6, h7, h8⟩ := h
  dsimp only at hm1 hm2 h1 h2 h3 h4 h5 h6 h7 h8 SM B0 KA KB HUN IA IB LA LB ⊢
  subst h1 h2 h3 h4 h5 h6 h7 h8
  generalize hcs : Rc.cs ⟨k, x, pv, nx, u, ni, im, nl, als, fr⟩ (.slice ai ni ci) (.slice al nl cl) = cs at *
  have hcs' := hcs
  have HCS := Lib.hid hcs'
  unfold Rc.cs at hcs
  subst hcs
  generalize hds : Rc.cs ⟨k, x, pv, nx, u, ni, im', nl, als', fr⟩ (.slice bi ni di) (.slice bl nl dl) = ds at *
  have hds' := hds
  have HDS := Lib.hid hds'
  unfold Rc.cs at hds
  subst hds
  clear hcs' hds'
  have hq := HUN.out
  rw [unB_self] at hq
  have TOK : True := trivial
  generalize hS : (Rc.same ⟨k, x, pv, nx, u, ni, im, nl, als, fr⟩ ⟨k, x, pv, nx, u, ni, im', nl, als', fr⟩) = SMS at SM ⊢
  clear hS
  go_enter Try.func15, Try.ntmps15
  go_wp2_with (first
    | (have _t := TOK; refine wpList_load_part 25 _ rfl (by first | rfl | kernel_rfl) w.heap.size 4 u.cs rfl (rc_undo (by have := KA.out; rw [← HCS.out] at this; exact this)) ?_; clear TOK _t)
    | (refine wpList_load_part 25 _ rfl (by first | rfl | kernel_rfl) (w.heap.size + 1) 4 u.cs rfl (rc_undo (by have := KB.out; rw [← HDS.out] at this; exact this)) ?_))
  clear hq HUN HCS HDS
  generalize ((w.alloc _).alloc _) = w0 at *
  go_loopw [5] (fun i wr => ∃ j : Nat, j ≤ ni ∧ i = .int .i64 j ∧ (∀ q, q < j → imB (im q) (im' q) = true) ∧ Below w.heap.size w wr ∧ Below w0.heap.size w0 wr) (fun i _ => ni - (intOf i).toNat)
  case atStart => exact ⟨0, Nat.zero_le _, rfl, (fun q hq => absurd hq (Nat.not_lt_zero _)), B0.out, Below.refl _ _⟩
  case round =>
    obtain ⟨j, hj, rfl, hall, hb, hb'⟩ := hrel
    have KA' := Lib.hid (KA.out.kept hb'); have KB' := Lib.hid (KB.out.kept hb')
    have HB := Lib.hid hb; have HB' := Lib.hid hb'; have ALL := Lib.hid hall
    have x11 := KA'.out.cell 11; have y11 := KB'.out.cell 11
    simp only [List.getElem?_toArray, List.getElem?_cons_zero, List.getElem?_cons_succ] at x11 y11
    clear hb hb' hall B0
    by_cases hlt : j < ni
    · obtain ⟨b1, o1, c1, e1, hl1⟩ := im_at IA.out hlt
      obtain ⟨b2, o2, c2, e2, hl2⟩ := im_at IB.out hlt
      obtain ⟨rfl, rfl⟩ : ai = some ⟨b1, o1, none⟩ ∧ ci = c1 := by simpa using e1
      obtain ⟨rfl, rfl⟩ : bi = some ⟨b2, o2, none⟩ ∧ di = c2 := by simpa using e2
      have HL1 := Lib.hid hl1; have HL2 := Lib.hid hl2
      have NQ := Lib.hid (fun w => image_neq (im j) (im' j) w)
      have X11 := Lib.hid x11; have Y11 := Lib.hid y11
      have HLT := Lib.hid hlt
      clear e1 e2 hl1 hl2
      go_wp2_with fail
      have hj0 : (0 : Int) ≤ (j : Int) := by omega
      have hjl : (j : Int) < (ni : Int) := by omega
      clear x11 y11
      refine wp_region_kept (by kernel_rfl) (by kernel_rfl) ?_
      (go_big_quiet_want; go_big_quiet_op; go_big_quiet_on)
      (go_big_quiet_want; refine q_load 26 _ rfl ⟨w.heap.size, 11, none⟩ _ rfl (fun x => ims_load (x.cell X11.out)) ?_; simp only [Act.put, List.setIfInBounds_toArray, List.set_cons_succ, List.set_cons_zero]; go_big_quiet_on)
      (go_big_quiet_want; go_big_quiet_op; go_big_quiet_on)
      (go_big_quiet_want; go_big_quiet_op; go_big_quiet_on)
      (go_big_quiet_want; refine q_load 51 _ rfl ⟨b1, o1 + j * 17, none⟩ (.agg (im j).cs) rfl (fun x => HL1.out x.1 (HB.out.trans (x.2.mono HB.out.size))) ?_; simp only [Act.put, List.setIfInBounds_toArray, List.set_cons_succ, List.set_cons_zero]; go_big_quiet_on)
      (go_big_quiet_want; go_big_quiet_op; go_big_quiet_on)
      (go_big_quiet_want; refine q_load 26 _ rfl ⟨w.heap.size + 1, 11, none⟩ _ rfl (fun x => ims_load (x.cell Y11.out)) ?_; simp only [Act.put, List.setIfInBounds_toArray, List.set_cons_succ, List.set_cons_zero]; go_big_quiet_on)
      (go_big_quiet_want; go_big_quiet_op; go_big_quiet_on)
      (go_big_quiet_want; go_big_quiet_op; go_big_quiet_on)
      (go_big_quiet_want; refine q_load 51 _ rfl ⟨b2, o2 + j * 17, none⟩ (.agg (im' j).cs) rfl (fun x => HL2.out x.1 (HB.out.trans (x.2.mono HB.out.size))) ?_; simp only [Act.put, List.setIfInBounds_toArray, List.set_cons_succ, List.set_cons_zero]; go_big_quiet_on)
      (go_big_quiet_want; refine q_neq 51 _ Try.eqGuardType51 _ _ rfl _ _ _ rfl rfl (fun w => NQ.out w) ?_; simp only [Act.put, List.setIfInBounds_toArray, List.set_cons_succ, List.set_cons_zero]; go_big_quiet_on)
      refine wpQuiet_nil ?_
      rintro _ ⟨x, rfl⟩
      have HB9 := Lib.hid (HB.out.trans (x.2.mono HB.out.size)); have HB9' := Lib.hid (HB'.out.trans (x.2.mono HB'.out.size))
      cases he : imB (im j) (im' j) with
      | true =>
        have HE := Lib.hid he
        clear he
        go_wp2_with fail
        go_roundw
        case rel =>
          refine ⟨j + 1, by have := HLT.out; omega, by go_num, fun q hq => ?_, HB9.out, HB9'.out⟩
          rcases Nat.lt_or_ge q j with h1 | h1
          · exact ALL.out q h1
          · obtain rfl : q = j := by omega
            exact HE.out
        case measure => have := HLT.out; simp [intOf]; omega
      | false =>
        have HNO := Lib.hid (show ¬ SMS from fun hs => by have := (SM.out.1 hs).1 j hlt; rw [he] at this; cases this)
        clear he
        go_wp2
        go_ret
        exact ⟨.inr ⟨rfl, HNO.out⟩, HB9.out⟩
    · have x12 := KA'.out.cell 12
      simp only [List.getElem?_toArray, List.getElem?_cons_zero, List.getElem?_cons_succ] at x12
      have HJ := Lib.hid (show j = ni by omega)
      go_wp2_with fail
      clear x11 y11 x12
      go_loopw [6] (fun i wr' => ∃ q : Nat, q ≤ nl ∧ i = .int .i64 q ∧ (∀ p, p < q → alB (als p) (als' p) = true) ∧ Below w.heap.size w wr' ∧ Below wr.heap.size wr wr') (fun i _ => nl - (intOf i).toNat)
      case atStart => exact ⟨0, Nat.zero_le _, rfl, (fun q hq => absurd hq (Nat.not_lt_zero _)), HB.out, Below.refl _ _⟩
      case round =>
        obtain ⟨q, hq, rfl, hall, hb, hb'⟩ := hrel
        have KA2 := Lib.hid (KA'.out.kept hb'); have KB2 := Lib.hid (KB'.out.kept hb')
        have HB2 := Lib.hid hb; have HB2' := Lib.hid hb'; have ALL2 := Lib.hid hall
        have x12 := KA2.out.cell 12; have y12 := KB2.out.cell 12
        simp only [List.getElem?_toArray, List.getElem?_cons_zero, List.getElem?_cons_succ] at x12 y12
        clear hb hb' hall
        by_cases hqt : q < nl
        · obtain ⟨b1, o1, c1, e1, hl1⟩ := al_at LA.out hqt
          obtain ⟨b2, o2, c2, e2, hl2⟩ := al_at LB.out hqt
          obtain ⟨rfl, rfl⟩ : al = some ⟨b1, o1, none⟩ ∧ cl = c1 := by simpa using e1
          obtain ⟨rfl, rfl⟩ : bl = some ⟨b2, o2, none⟩ ∧ dl = c2 := by simpa using e2
          have HL1 := Lib.hid hl1; have HL2 := Lib.hid hl2
          have NQ := Lib.hid (fun w => alive_neq (als q) (als' q) w)
          have X12 := Lib.hid x12; have Y12 := Lib.hid y12
          have HQT := Lib.hid hqt
          clear e1 e2 hl1 hl2
          go_wp2_with fail
          have hj0 : (0 : Int) ≤ (q : Int) := by omega
          have hjl : (q : Int) < (nl : Int) := by omega
          clear x12 y12
          refine wp_region_kept (by kernel_rfl) (by kernel_rfl) ?_
          (go_big_quiet_want; go_big_quiet_op; go_big_quiet_on)
          (go_big_quiet_want; refine q_load 27 _ rfl ⟨w.heap.size, 12, none⟩ _ rfl (fun x => als_load (x.cell X12.out)) ?_; simp only [Act.put, List.setIfInBounds_toArray, List.set_cons_succ, List.set_cons_zero]; go_big_quiet_on)
          (go_big_quiet_want; go_big_quiet_op; go_big_quiet_on)
          (go_big_quiet_want; go_big_quiet_op; go_big_quiet_on)
          (go_big_quiet_want; refine q_load 54 _ rfl ⟨b1, o1 + q * 3, none⟩ (.agg (als q).cs) rfl (fun x => HL1.out x.1 (HB2.out.trans (x.2.mono HB2.out.size))) ?_; simp only [Act.put, List.setIfInBounds_toArray, List.set_cons_succ, List.set_cons_zero]; go_big_quiet_on)
          (go_big_quiet_want; go_big_quiet_op; go_big_quiet_on)
          (go_big_quiet_want; refine q_load 27 _ rfl ⟨w.heap.size + 1, 12, none⟩ _ rfl (fun x => als_load (x.cell Y12.out)) ?_; simp only [Act.put, List.setIfInBounds_toArray, List.set_cons_succ, List.set_cons_zero]; go_big_quiet_on)
          (go_big_quiet_want; go_big_quiet_op; go_big_quiet_on)
          (go_big_quiet_want; go_big_quiet_op; go_big_quiet_on)
          (go_big_quiet_want; refine q_load 54 _ rfl ⟨b2, o2 + q * 3, none⟩ (.agg (als' q).cs) rfl (fun x => HL2.out x.1 (HB2.out.trans (x.2.mono HB2.out.size))) ?_; simp only [Act.put, List.setIfInBounds_toArray, List.set_cons_succ, List.set_cons_zero]; go_big_quiet_on)
          (go_big_quiet_want; refine q_neq 54 _ Try.eqGuardType54 _ _ rfl _ _ _ rfl rfl (fun w => NQ.out w) ?_; simp only [Act.put, List.setIfInBounds_toArray, List.set_cons_succ, List.set_cons_zero]; go_big_quiet_on)
          refine wpQuiet_nil ?_
          rintro _ ⟨x, rfl⟩
          have HB9 := Lib.hid (HB2.out.trans (x.2.mono HB2.out.size)); have HB9' := Lib.hid (HB2'.out.trans (x.2.mono HB2'.out.size))
          cases he : alB (als q) (als' q) with
          | true =>
            have HE := Lib.hid he
            clear he
            go_wp2_with fail
            go_roundw
            case rel =>
              refine ⟨q + 1, by have := HQT.out; omega, by go_num, fun p hp => ?_, HB9.out, HB9'.out⟩
              rcases Nat.lt_or_ge p q with h1 | h1
              · exact ALL2.out p h1
              · obtain rfl : p = q := by omega
                exact HE.out
            case measure => have := HQT.out; simp [intOf]; omega
          | false =>
            have HNO := Lib.hid (show ¬ SMS from fun hs => by have := (SM.out.1 hs).2 q hqt; rw [he] at this; cases this)
            clear he
            go_wp2
            go_ret
            exact ⟨.inr ⟨rfl, HNO.out⟩, HB9.out⟩
        · have HYES := Lib.hid (show SMS from SM.out.2 ⟨fun i hi => ALL.out i (by have := HJ.out; omega), fun i hi => ALL2.out i (by omega)⟩)
          go_wp2
          go_ret
          exact ⟨.inl ⟨rfl, HYES.out⟩, HB2.out⟩

theorem same_any (a b : Rc) (via vib vla vlb : Value) (w : World) (hIa : ImAt w w.heap.size via a.ni a.im) (hIb : ImAt w w.heap.size vib b.ni b.im) (hLa : AlAt w w.heap.size vla a.nl a.al) (hLb : AlAt w w.heap.size vlb b.nl b.al) :
    Calls Try.prog 15 #[.agg (a.cs via vla), .agg (b.cs vib vlb)] w fun e w' => ((e = .returned (.bool true) ∧ a.same b) ∨ (e = .returned (.bool false) ∧ ¬ a.same b)) ∧ Below w.heap.size w w' := by
  by_cases h : a.hd b
  · exact same_tail a b via vib vla vlb w h hIa hIb hLa hLb
  · obtain ⟨ai, ci, rfl, _, _⟩ := hIa
    obtain ⟨bi, di, rfl, _, _⟩ := hIb
    obtain ⟨al, cl, rfl, _, _⟩ := hLa
    obtain ⟨bl, dl, rfl, _, _⟩ := hLb
    exact (same_head a b ai bi ci di al bl cl dl w h).mono fun e w' ⟨he, hb⟩ => ⟨.inr ⟨he, fun hs => h hs.1⟩, hb⟩
end Go.Proofs.Ytggabnmfjooejaa
