/- A queue is asked. -/
import Derived.Test.YtnpnpkaklamboaaDoorLkIns2
set_option linter.unusedVariables false
set_option linter.unusedSimpArgs false
namespace Go.Proofs.YtnpnpkaklamboaaDoor
open Go.RowKit Go.Shelf

theorem find_none {l : List Hold} {x : Int} (h : getH x l = none) : idxP (fun h => h.x == x) l = -1 := idxP_miss fun j hj => by
  have := getH_none h l[j] (List.getElem_mem hj)
  simpa using this
theorem find_some {l : List Hold} {x : Int} {g : Hold} (h : getH x l = some g) : ∃ (i : Nat) (hi : i < l.length), idxP (fun h => h.x == x) l = (i : Int) ∧ l[i] = g := by
  unfold getH at h
  rw [List.find?_eq_some_iff_getElem] at h
  obtain ⟨h1, i, hi, h2, h3⟩ := h
  refine ⟨i, hi, idxP_hit hi (by rw [h2]; exact h1) (fun j hj hji => by have := h3 j hji; simpa using this), h2⟩
theorem setH_at {l : List Hold} (hs : l.Pairwise fun a b => a.x < b.x) (f : Hold → Hold) {i : Nat} (hi : i < l.length) : setH l[i].x f l = l.set i (f l[i]) := by
  unfold setH
  refine List.ext_getElem (by simp) fun j h1 h2 => ?_
  have hj : j < l.length := by simpa using h1
  rw [List.getElem_map, List.getElem_set]
  by_cases e : i = j
  · subst e; rw [if_pos rfl, if_pos rfl]
  · rw [if_neg e, if_neg]
    intro e2
    rcases Nat.lt_or_gt_of_ne e with h | h
    · have := List.pairwise_iff_getElem.1 hs i j hi hj h; omega
    · have := List.pairwise_iff_getElem.1 hs j i hj hi h; omega
section
variable {w w' : World} {F : Nat → Prop} {g b off cap : Nat} {cur : Array Value} {vh ve vw : Value} {q : Que}
/-- One cell of a hold is turned. -/
theorem Qm.setc (h : Qm w F g vh ve vw q) (hF : F b) (hA : RkAt w 66 3 hC b off cap cur q.hs) (hv : vh = .slice (some ⟨b, off, none⟩) q.hs.length cap) {i : Nat} (hi : i < q.hs.length) (c : Nat) (hc : c < 3) (u : Value) (y : Hold)
    (hy : ∀ d u', (hC y)[d]? = some u' → if d = c then u' = u else (hC q.hs[i])[d]? = some u') : Qm (w.setCell ⟨b, off + i * 3 + c, none⟩ u) F g vh ve vw ⟨q.hs.set i y, q.eg, q.ws⟩ ∧ Kpf F w (w.setCell ⟨b, off + i * 3 + c, none⟩ u) :=
  ⟨⟨h.fg, h.bk.far (p := ⟨b, off + i * 3 + c, none⟩) (Bk.ne_ h.bk hA.bk (by decide)) u, .inr ⟨b, off, cap, _, by rw [List.length_set]; exact hv, hF, hA.set hC_len i hi c hc u y hy⟩, h.eg.set_far hA.bk (by decide) _ _, h.ws.set_far hA.bk (by decide) _ _⟩, (Kpf.refl F w).setCell (a := ⟨b, off + i * 3 + c, none⟩) (.inl hF) u⟩
end
theorem wish_info : ∃ i, Tryd.prog.info? 68 = some i ∧ i.zero = some (.agg #[.int .i64 0, .int .i64 0]) ∧ i.size = 2 ∧ i.bytes = 16 := by
  have h : (Tryd.prog.info? 68).map (fun i => (i.zero, i.size, i.bytes)) = some (some (.agg #[.int .i64 0, .int .i64 0]), 2, 16) := by kernel_rfl
  cases hi : Tryd.prog.info? 68 with
  | none => rw [hi] at h; cases h
  | some i =>
    rw [hi] at h
    simp only [Option.map_some, Option.some.injEq, Prod.mk.injEq] at h
    exact ⟨i, rfl, h.1, h.2.1, h.2.2⟩
theorem int_info : ∃ i, Tryd.prog.info? 3 = some i ∧ i.zero = some (.int .i64 0) ∧ i.size = 1 ∧ i.bytes = 8 := by
  have h : (Tryd.prog.info? 3).map (fun i => (i.zero, i.size, i.bytes)) = some (some (.int .i64 0), 1, 8) := by kernel_rfl
  cases hi : Tryd.prog.info? 3 with
  | none => rw [hi] at h; cases h
  | some i =>
    rw [hi] at h
    simp only [Option.map_some, Option.some.injEq, Prod.mk.injEq] at h
    exact ⟨i, rfl, h.1, h.2.1, h.2.2⟩
def AskPost (w : World) (F : Nat → Prop) (g : Nat) (q' : Que) (ok : Bool) (e : Ending) (w' : World) : Prop := e = .returned (.bool ok) ∧ Kpf F w w' ∧ ∃ vh' ve' vw', Qm w' (Ext F w w') g vh' ve' vw' q'
set_option maxRecDepth 100000 in
set_option maxHeartbeats 8000000 in
theorem ask_none {w : World} {F : Nat → Prop} {g : Nat} {vh ve vw : Value} {q : Que} (h : Qm w F g vh ve vw q) (hT : Tab w) (hbd : q.bd) (hs : q.hs.Pairwise fun a b => a.x < b.x) {N : Nat} (hb : q.few N) (hN : N ≤ 100000) (x : Int) (m : Nat) (hm : m ≤ 6) (hg : getH x q.hs = none) :
    Calls Tryd.prog 21 #[.pointer (some ⟨g, 0, none⟩), .int .i64 x, .int .i64 (m : Int)] w (AskPost w F g (q.ask cpN jnN x m).1 (q.ask cpN jnN x m).2) := by
  obtain ⟨hb1, hb2⟩ := hb
  have FI := Lib.hid (find_any h (by omega) x)
  rw [find_none hg] at FI
  obtain ⟨sa, sc, hv⟩ := h.hs.slice
  obtain ⟨ea, ec, hve⟩ := h.eg.slice
  obtain ⟨wa, wc, hvw⟩ := h.ws.slice
  subst hv hve hvw
  have H := Lib.hid h
  have T := Lib.hid hT
  have BD := Lib.hid hbd
  have HS := Lib.hid hs
  have LW : q.ws.length ≤ 100000 := by omega
  have LH := Lib.hid (show q.hs.length ≤ 100000 by omega)
  have wish : ∀ (W : World), Below w.heap.size w W → ¬ (q.ws = [] ∧ q.eg = [] ∧ q.free cpN x m = true) → (q.ask cpN jnN x m) = ({ q with ws := q.ws ++ [(x, m)] }, false) := fun W _ hn => by
    unfold Que.ask; rw [hg]; dsimp only; rw [if_neg hn]
  have WISH := Lib.hid wish
  have GIVE := Lib.hid (show q.ws = [] ∧ q.eg = [] ∧ q.free cpN x m = true → (q.ask cpN jnN x m) = ({ q with hs := insH ⟨x, m, 0⟩ q.hs }, true) from fun hc => by
    unfold Que.ask; rw [hg]; dsimp only; rw [if_pos hc])
  obtain ⟨I, hi, hz, hsz, hby⟩ := wish_info
  have HI := Lib.hid hi
  have HZ := Lib.hid hz
  have HSZ := Lib.hid hsz
  have HBY := Lib.hid hby
  have m1 : ((-1 : Int) < 0) := by decide
  obtain ⟨nw, hnw⟩ : ∃ nw, nw = q.ws.length := ⟨_, rfl⟩
  obtain ⟨ne, hne⟩ : ∃ ne, ne = q.eg.length := ⟨_, rfl⟩
  have NW := Lib.hid hnw
  have NE := Lib.hid hne
  -- the wish
  have WS := Lib.hid (fun (W : World) (hbl : Below w.heap.size w W) => show ∃ vb, vb = W.heap.size ∧ Qm (W.alloc (.cells #[.int .i64 x, .int .i64 (m : Int)] 68)) F g _ _ _ q ∧ (∀ j u, (wC (x, m))[j]? = some u → (W.alloc (.cells #[.int .i64 x, .int .i64 (m : Int)] 68)).cell? ((⟨vb, 0, none⟩ : Addr).add j) = some u) from ⟨_, rfl, (h.kept hbl).alloc _, fun j u hu => by
    rw [Addr.add_mid, Nat.zero_add, (Bk.new W _ _).cell]
    simpa using hu⟩)
  clear h hT hbd hs hb1 hb2 hN hg wish hi hz hsz hby
  generalize hpost : AskPost w F g (q.ask cpN jnN x m).1 (q.ask cpN jnN x m).2 = PO
  have HP := Lib.hid hpost
  clear hpost
  go_enter Tryd.func21, Tryd.ntmps21
  go_wp2_with fail
  refine FI.out.mono ?_
  rintro e w1 ⟨rfl, hb1⟩
  have B1 := Lib.hid hb1
  have H1 := Lib.hid (H.out.kept hb1)
  have y1 : w1.cell? ⟨g, 1, none⟩ = some (.slice ea ne ec) := by rw [hne]; exact H1.out.bk.cell 1
  have y2 : w1.cell? ⟨g, 2, none⟩ = some (.slice wa nw wc) := by rw [hnw]; exact H1.out.bk.cell 2
  clear hb1 FI hnw hne
  by_cases hw0 : nw = 0
  · subst hw0
    by_cases he0 : ne = 0
    · subst he0
      have FR := Lib.hid (free_any H1.out (T.out.below B1.out) BD.out (by have := LH.out; omega) x m hm)
      have e1 : q.ws = [] := List.eq_nil_of_length_eq_zero NW.out.symm
      have e2 : q.eg = [] := List.eq_nil_of_length_eq_zero NE.out.symm
      cases hf : q.free cpN x m with
      | true =>
        rw [hf] at FR
        have EQ := Lib.hid (GIVE.out ⟨e1, e2, hf⟩)
        clear e1 e2 hf WISH GIVE
        go_wp2_with fail
        refine FR.out.mono ?_
        rintro e w2 ⟨rfl, hb2⟩
        have B2 := Lib.hid (below_then B1.out hb2 B1.out.size)
        have AD := Lib.hid (add_any (H.out.kept B2.out) HS.out (by have := LH.out; omega) x m)
        clear hb2 FR y1 y2
        go_wp2_with fail
        refine AD.out.mono ?_
        rintro e w3 ⟨rfl, kp3, vh3, qm3⟩
        have K3 := Lib.hid kp3
        have Q3 := Lib.hid qm3
        clear kp3 qm3 AD
        go_wp2
        rw [← HP.out, EQ.out]
        refine ⟨rfl, (Kpf.of_below (F := F) B2.out).same K3.out, _, _, _, Q3.out.mono fun j hj => ?_⟩
        rcases hj with hj | hj
        · exact .inl hj
        · exact .inr ⟨Nat.le_trans B2.out.size hj.1, hj.2⟩
      | false =>
        rw [hf] at FR
        have EQ := Lib.hid (WISH.out w1 B1.out (fun hc => by rw [hf] at hc; cases hc.2.2))
        clear e1 e2 hf WISH GIVE
        go_wp2_with fail
        refine FR.out.mono ?_
        rintro e w2 ⟨rfl, hb2⟩
        have B2 := Lib.hid (below_then B1.out hb2 B1.out.size)
        clear hb2 FR y2
        clear y1
        obtain ⟨vb, hvb, qm2, hn2⟩ := WS.out w2 B2.out
        have Q2 := Lib.hid qm2
        have N2 := Lib.hid hn2
        have VB := Lib.hid hvb
        have z2 : w2.cell? ⟨g, 2, none⟩ = some (.slice wa q.ws.length wc) := (H.out.kept B2.out).bk.cell 2
        have LE := Lib.hid LW
        have fr := (H.out.kept B2.out).bk.fz 2
        clear qm2 hn2 hvb
        go_wp2_with (first | (rw [← VB.out]; refine wpList_append_rk rfl _ _ 59 rfl I _ 16 Tryd.underlying59 HI.out HZ.out HSZ.out HBY.out rfl wC_len (by decide) wC_one _ q.ws rfl Q2.out.ws (x, m) ⟨vb, 0, none⟩ 1 rfl N2.out (by have := LE.out; omega) (by have := LE.out; omega) ?_; intro v3 w3 hr3 hg3; obtain ⟨xa3, n3, xc3, rfl⟩ : ∃ a n c, v3 = .slice a n c := (by obtain ⟨a, c, hx⟩ := hr3.slice; exact ⟨_, _, _, hx⟩); have kp3 := Kpf.of_only (F := fun i => (Value.slice wa q.ws.length wc).ownBlock = some i) hg3 (fun k hk => hk); have Q3 := Lib.hid (Q2.out.put2 kp3 (fun i h => .inl h) hr3); have b3 := kp_apart Q2.out.ws kp3 Q2.out.bk (by decide); have c2 : w3.cell? ⟨g, 2, none⟩ = some (.slice wa q.ws.length wc) := (by rw [World.cell?_of_block (w := w2.alloc (.cells #[.int .i64 x, .int .i64 (m : Int)] 68)) b3]; exact Q2.out.bk.cell 2); have fz3 : w3.frozen? ⟨g, 2, none⟩ = false := (by rw [World.frozen?_of_block (w := w2.alloc (.cells #[.int .i64 x, .int .i64 (m : Int)] 68)) b3]; exact Q2.out.bk.fz 2); clear hr3 hg3 kp3 b3 z2 fr))
        rw [← HP.out, EQ.out]
        have hk2 : Kpf F w (w2.alloc (.cells #[.int .i64 x, .int .i64 (m : Int)] 68)) := (Kpf.of_below (F := F) B2.out).alloc _
        refine ⟨rfl, hk2.same Q3.out.2, .slice sa q.hs.length sc, .slice ea q.eg.length ec, .slice xa3 n3 xc3, Q3.out.1.mono fun j hj => ?_⟩
        rcases hj with hj | hj
        · exact .inl hj
        · exact .inr ⟨Nat.le_trans hk2.size hj.1, by simpa [World.setCell] using hj.2⟩
    · have EQ := Lib.hid (WISH.out w1 B1.out (fun hc => he0 (by rw [NE.out, hc.2.1]; rfl)))
      have he1 : ((ne : Int) == 0) = false := beq_eq_false_iff_ne.2 (by omega)
      have he2 : ¬ ((ne : Int) = 0) := by omega
      obtain ⟨w2, hw2⟩ : ∃ w2, w2 = w1 := ⟨_, rfl⟩
      subst hw2
      have B2 := B1
      clear WISH GIVE
      go_upto_region 6 with fail
      clear y1
      obtain ⟨vb, hvb, qm2, hn2⟩ := WS.out w2 B2.out
      have Q2 := Lib.hid qm2
      have N2 := Lib.hid hn2
      have VB := Lib.hid hvb
      have z2 : w2.cell? ⟨g, 2, none⟩ = some (.slice wa q.ws.length wc) := (H.out.kept B2.out).bk.cell 2
      have LE := Lib.hid LW
      have fr := (H.out.kept B2.out).bk.fz 2
      clear qm2 hn2 hvb y2
      go_wp2_with (first | (rw [← VB.out]; refine wpList_append_rk rfl _ _ 59 rfl I _ 16 Tryd.underlying59 HI.out HZ.out HSZ.out HBY.out rfl wC_len (by decide) wC_one _ q.ws rfl Q2.out.ws (x, m) ⟨vb, 0, none⟩ 1 rfl N2.out (by have := LE.out; omega) (by have := LE.out; omega) ?_; intro v3 w3 hr3 hg3; obtain ⟨xa3, n3, xc3, rfl⟩ : ∃ a n c, v3 = .slice a n c := (by obtain ⟨a, c, hx⟩ := hr3.slice; exact ⟨_, _, _, hx⟩); have kp3 := Kpf.of_only (F := fun i => (Value.slice wa q.ws.length wc).ownBlock = some i) hg3 (fun k hk => hk); have Q3 := Lib.hid (Q2.out.put2 kp3 (fun i h => .inl h) hr3); have b3 := kp_apart Q2.out.ws kp3 Q2.out.bk (by decide); have c2 : w3.cell? ⟨g, 2, none⟩ = some (.slice wa q.ws.length wc) := (by rw [World.cell?_of_block (w := w2.alloc (.cells #[.int .i64 x, .int .i64 (m : Int)] 68)) b3]; exact Q2.out.bk.cell 2); have fz3 : w3.frozen? ⟨g, 2, none⟩ = false := (by rw [World.frozen?_of_block (w := w2.alloc (.cells #[.int .i64 x, .int .i64 (m : Int)] 68)) b3]; exact Q2.out.bk.fz 2); clear hr3 hg3 kp3 b3 z2 fr))
      rw [← HP.out, EQ.out]
      have hk2 : Kpf F w (w2.alloc (.cells #[.int .i64 x, .int .i64 (m : Int)] 68)) := (Kpf.of_below (F := F) B2.out).alloc _
      refine ⟨rfl, hk2.same Q3.out.2, .slice sa q.hs.length sc, .slice ea q.eg.length ec, .slice xa3 n3 xc3, Q3.out.1.mono fun j hj => ?_⟩
      rcases hj with hj | hj
      · exact .inl hj
      · exact .inr ⟨Nat.le_trans hk2.size hj.1, by simpa [World.setCell] using hj.2⟩
  · have EQ := Lib.hid (WISH.out w1 B1.out (fun hc => hw0 (by rw [NW.out, hc.1]; rfl)))
    have he1 : ((nw : Int) == 0) = false := beq_eq_false_iff_ne.2 (by omega)
    have he2 : ¬ ((nw : Int) = 0) := by omega
    obtain ⟨w2, hw2⟩ : ∃ w2, w2 = w1 := ⟨_, rfl⟩
    subst hw2
    have B2 := B1
    clear WISH GIVE
    go_upto_region 6 with fail
    clear y1
    obtain ⟨vb, hvb, qm2, hn2⟩ := WS.out w2 B2.out
    have Q2 := Lib.hid qm2
    have N2 := Lib.hid hn2
    have VB := Lib.hid hvb
    have z2 : w2.cell? ⟨g, 2, none⟩ = some (.slice wa q.ws.length wc) := (H.out.kept B2.out).bk.cell 2
    have LE := Lib.hid LW
    have fr := (H.out.kept B2.out).bk.fz 2
    clear qm2 hn2 hvb y2
    go_wp2_with (first | (rw [← VB.out]; refine wpList_append_rk rfl _ _ 59 rfl I _ 16 Tryd.underlying59 HI.out HZ.out HSZ.out HBY.out rfl wC_len (by decide) wC_one _ q.ws rfl Q2.out.ws (x, m) ⟨vb, 0, none⟩ 1 rfl N2.out (by have := LE.out; omega) (by have := LE.out; omega) ?_; intro v3 w3 hr3 hg3; obtain ⟨xa3, n3, xc3, rfl⟩ : ∃ a n c, v3 = .slice a n c := (by obtain ⟨a, c, hx⟩ := hr3.slice; exact ⟨_, _, _, hx⟩); have kp3 := Kpf.of_only (F := fun i => (Value.slice wa q.ws.length wc).ownBlock = some i) hg3 (fun k hk => hk); have Q3 := Lib.hid (Q2.out.put2 kp3 (fun i h => .inl h) hr3); have b3 := kp_apart Q2.out.ws kp3 Q2.out.bk (by decide); have c2 : w3.cell? ⟨g, 2, none⟩ = some (.slice wa q.ws.length wc) := (by rw [World.cell?_of_block (w := w2.alloc (.cells #[.int .i64 x, .int .i64 (m : Int)] 68)) b3]; exact Q2.out.bk.cell 2); have fz3 : w3.frozen? ⟨g, 2, none⟩ = false := (by rw [World.frozen?_of_block (w := w2.alloc (.cells #[.int .i64 x, .int .i64 (m : Int)] 68)) b3]; exact Q2.out.bk.fz 2); clear hr3 hg3 kp3 b3 z2 fr))
    rw [← HP.out, EQ.out]
    have hk2 : Kpf F w (w2.alloc (.cells #[.int .i64 x, .int .i64 (m : Int)] 68)) := (Kpf.of_below (F := F) B2.out).alloc _
    refine ⟨rfl, hk2.same Q3.out.2, .slice sa q.hs.length sc, .slice ea q.eg.length ec, .slice xa3 n3 xc3, Q3.out.1.mono fun j hj => ?_⟩
    rcases hj with hj | hj
    · exact .inl hj
    · exact .inr ⟨Nat.le_trans hk2.size hj.1, by simpa [World.setCell] using hj.2⟩
theorem m_cell (h : Hold) (j : Nat) : ∀ d u', (hC { h with m := j })[d]? = some u' → if d = 1 then u' = .int .i64 (j : Int) else (hC h)[d]? = some u' := fun d u' hu => by
  match d, hu with
  | 0, hu => exact hu
  | 1, hu => rw [if_pos rfl]; exact (Option.some.inj hu).symm
  | 2, hu => exact hu
  | d + 3, hu => simp [hC] at hu
theorem w_cell (h : Hold) (j : Nat) : ∀ d u', (hC { h with w := j })[d]? = some u' → if d = 2 then u' = .int .i64 (j : Int) else (hC h)[d]? = some u' := fun d u' hu => by
  match d, hu with
  | 0, hu => exact hu
  | 1, hu => exact hu
  | 2, hu => rw [if_pos rfl]; exact (Option.some.inj hu).symm
  | d + 3, hu => simp [hC] at hu
set_option maxRecDepth 100000 in
set_option maxHeartbeats 8000000 in
theorem ask_have {w : World} {F : Nat → Prop} {g : Nat} {vh ve vw : Value} {q : Que} (h : Qm w F g vh ve vw q) (hT : Tab w) (hbd : q.bd) (hs : q.hs.Pairwise fun a b => a.x < b.x) {N : Nat} (hb : q.few N) (hN : N ≤ 100000) (x : Int) (m : Nat) (hm : m ≤ 6) (h0 : Hold) (hg : getH x q.hs = some h0) :
    Calls Tryd.prog 21 #[.pointer (some ⟨g, 0, none⟩), .int .i64 x, .int .i64 (m : Int)] w (AskPost w F g (q.ask cpN jnN x m).1 (q.ask cpN jnN x m).2) := by
  obtain ⟨hb1, hb2⟩ := hb
  have FI := Lib.hid (find_any h (by omega) x)
  obtain ⟨i, hil, hix, hli⟩ := find_some hg
  rw [hix] at FI
  have h0b := hbd.hs h0 (getH_some hg).1
  obtain ⟨j, hj⟩ : ∃ j, j = jnN h0.m m := ⟨_, rfl⟩
  have J6 := Lib.hid (show j ≤ 6 by rw [hj]; exact jnN_le h0b.2.1 hm)
  have JC := Lib.hid (fun (W : World) (hW : Tab W) => join_any (h0.m : Int) (m : Int) W hW)
  have JE := Lib.hid (show ((j : Nat) : Int) = Md.join (h0.m : Int) (m : Int) by rw [hj]; exact jnN_eq h0b.2.1 hm)
  rw [← JE.out] at JC
  rcases h.hs with ⟨hv, hnil⟩ | ⟨b, off, cap, cur, hv, hF, hA⟩
  · rw [hnil] at hil; exact absurd hil (Nat.not_lt_zero _)
  obtain ⟨ea, ec, hve⟩ := h.eg.slice
  obtain ⟨wa, wc, hvw⟩ := h.ws.slice
  subst hv hve hvw
  have HA := Lib.hid hA
  have HF := Lib.hid hF
  have H := Lib.hid h
  have T := Lib.hid hT
  have BD := Lib.hid hbd
  have L0 := Lib.hid hli
  have LW := Lib.hid (show q.ws.length ≤ 100000 by omega)
  have LH := Lib.hid (show q.hs.length ≤ 100000 by omega)
  have LE := Lib.hid (show q.eg.length ≤ 100000 by omega)
  have i63 : i ≤ 100000 := by omega
  have icap : i < cap := by have := hA.le; omega
  have cap63 : cap ≤ 9223372036854775807 := by have := hA.mx; unfold maxLen at this; omega
  have i0 : ¬ ((i : Int) < 0) := by omega
  have X0 := Lib.hid (show x = q.hs[i].x by rw [hli]; exact (getH_some hg).2.symm)
  have SET := Lib.hid (show ∀ f : Hold → Hold, setH x f q.hs = q.hs.set i (f h0) from fun f => by rw [X0.out, setH_at hs f hil, hli])
  have GIVE := Lib.hid (show j = h0.m ∨ q.free cpN x j = true → (q.ask cpN jnN x m) = ({ q with hs := setH x (fun h' => { h' with m := j }) q.hs }, true) from fun hc => by
    unfold Que.ask; rw [hg]; dsimp only; rw [← hj, if_pos hc])
  have WANT := Lib.hid (show ¬ (j = h0.m ∨ q.free cpN x j = true) → (q.ask cpN jnN x m) = ({ q with hs := setH x (fun h' => { h' with w := j }) q.hs, eg := q.eg ++ [x] }, false) from fun hc => by
    unfold Que.ask; rw [hg]; dsimp only; rw [← hj, if_neg hc])
  obtain ⟨I, hi, hz, hsz, hby⟩ := int_info
  have HI := Lib.hid hi
  have HZ := Lib.hid hz
  have HSZ := Lib.hid hsz
  have HBY := Lib.hid hby
  clear h hT hbd hs hb1 hb2 hN hg hA hF hli hix h0b hj hi hz hsz hby JE X0
  generalize hpost : AskPost w F g (q.ask cpN jnN x m).1 (q.ask cpN jnN x m).2 = PO
  have HP := Lib.hid hpost
  clear hpost
  go_enter Tryd.func21, Tryd.ntmps21
  go_wp2_with fail
  refine FI.out.mono ?_
  rintro e w1 ⟨rfl, hb1⟩
  have B1 := Lib.hid hb1
  have y0 : w1.cell? ⟨g, 0, none⟩ = some (.slice (some ⟨b, off, none⟩) q.hs.length cap) := (H.out.kept hb1).bk.cell 0
  have y1 : w1.cell? ⟨b, off + i * 3 + 1, none⟩ = some (.int .i64 (h0.m : Int)) := (HA.out.kept hb1).cell hil (by rw [L0.out]; rfl)
  have JJ := Lib.hid (JC.out w1 (T.out.below hb1))
  clear hb1 FI JC
  go_wp2_with fail
  refine JJ.out.mono ?_
  rintro e w2 ⟨rfl, hb2⟩
  have B2 := Lib.hid (below_then B1.out hb2 B1.out.size)
  clear hb2 JJ y0 y1
  have z1 : w2.cell? ⟨b, off + i * 3 + 1, none⟩ = some (.int .i64 (h0.m : Int)) := (HA.out.kept B2.out).cell hil (by rw [L0.out]; rfl)
  by_cases hjm : j = h0.m
  · have EQ := Lib.hid (GIVE.out (.inl hjm))
    have hjb : ((j : Int) == (h0.m : Int)) = true := by rw [hjm]; exact beq_self_eq_true _
    have hjm2 : (j : Int) = (h0.m : Int) := by rw [hjm]
    obtain ⟨w3, hw3⟩ : ∃ w3, w3 = w2 := ⟨_, rfl⟩
    subst hw3
    have B3 := B2
    have HJM := Lib.hid hjm
    clear WANT GIVE hjm
    go_upto_region 11 with fail
    clear hjm2 hjb
    have Q3 := Lib.hid (Qm.setc (H.out.kept B3.out) HF.out (HA.out.kept B3.out) rfl hil 1 (by decide) (.int .i64 (h0.m : Int)) { h0 with m := j } (by rw [L0.out, HJM.out]; exact m_cell h0 h0.m))
    have K3 := Lib.hid (Kpf.of_below (F := F) B3.out)
    have HA3 := (HA.out.kept B3.out)
    have c3 : w3.cell? ⟨b, off + i * 3 + 1, none⟩ = some (.int .i64 (h0.m : Int)) := HA3.cell hil (by rw [L0.out]; rfl)
    have fz3 : w3.frozen? ⟨b, off + i * 3 + 1, none⟩ = false := HA3.bk.fz _
    clear HA3 z1
    go_wp2
    rw [← HP.out, EQ.out]
    exact ⟨rfl, K3.out.same Q3.out.2, _, _, _, by have := Q3.out.1; rw [SET.out]; exact this.mono fun j hj => .inl hj⟩
  · have hjb : ((j : Int) == (h0.m : Int)) = false := beq_eq_false_iff_ne.2 (by omega)
    have hjm2 : ¬ (j : Int) = (h0.m : Int) := by omega
    have FR := Lib.hid (free_any (H.out.kept B2.out) (T.out.below B2.out) BD.out (by have := LH.out; omega) x j J6.out)
    cases hf : q.free cpN x j with
    | true =>
      rw [hf] at FR
      have EQ := Lib.hid (GIVE.out (.inr hf))
      clear hf WANT GIVE
      go_wp2_with fail
      refine FR.out.mono ?_
      rintro e w3 ⟨rfl, hb3⟩
      have B3 := Lib.hid (below_then B2.out hb3 B2.out.size)
      clear hb3 FR z1
      have Q3 := Lib.hid (Qm.setc (H.out.kept B3.out) HF.out (HA.out.kept B3.out) rfl hil 1 (by decide) (.int .i64 (j : Int)) { h0 with m := j } (by rw [L0.out]; exact m_cell h0 j))
      have K3 := Lib.hid (Kpf.of_below (F := F) B3.out)
      have HA3 := (HA.out.kept B3.out)
      have c3 : w3.cell? ⟨b, off + i * 3 + 1, none⟩ = some (.int .i64 (h0.m : Int)) := HA3.cell hil (by rw [L0.out]; rfl)
      have fz3 : w3.frozen? ⟨b, off + i * 3 + 1, none⟩ = false := HA3.bk.fz _
      clear HA3
      go_wp2
      rw [← HP.out, EQ.out]
      exact ⟨rfl, K3.out.same Q3.out.2, _, _, _, by have := Q3.out.1; rw [SET.out]; exact this.mono fun j hj => .inl hj⟩
    | false =>
      rw [hf] at FR
      have EQ := Lib.hid (WANT.out (fun hc => hc.elim hjm (fun h => by rw [hf] at h; cases h)))
      clear hf WANT GIVE hjm
      go_wp2_with fail
      refine FR.out.mono ?_
      rintro e w3 ⟨rfl, hb3⟩
      have B3 := Lib.hid (below_then B2.out hb3 B2.out.size)
      clear hb3 FR z1
      have Q3 := Lib.hid (Qm.setc (H.out.kept B3.out) HF.out (HA.out.kept B3.out) rfl hil 2 (by decide) (.int .i64 (j : Int)) { h0 with w := j } (by rw [L0.out]; exact w_cell h0 j))
      have K3 := Lib.hid (Kpf.of_below (F := F) B3.out)
      have HA3 := (HA.out.kept B3.out)
      have c3 : w3.cell? ⟨b, off + i * 3 + 2, none⟩ = some (.int .i64 (h0.w : Int)) := HA3.cell hil (by rw [L0.out]; rfl)
      have fz3 : w3.frozen? ⟨b, off + i * 3 + 2, none⟩ = false := HA3.bk.fz _
      clear HA3
      go_upto_region 14 with fail
      obtain ⟨w4, hw4⟩ : ∃ w4, w4 = w3.setCell ⟨b, off + i * 3 + 2, none⟩ (.int .i64 (j : Int)) := ⟨_, rfl⟩
      rw [← hw4] at Q3 ⊢
      have K4 := Lib.hid (K3.out.same Q3.out.2)
      clear c3 fz3 hw4 hjb hjm2
      have z4 : w4.cell? ⟨g, 1, none⟩ = some (.slice ea q.eg.length ec) := Q3.out.1.bk.cell 1
      have fr := Q3.out.1.bk.fz 1
      obtain ⟨vb, hvb⟩ : ∃ vb, vb = w4.heap.size := ⟨_, rfl⟩
      have VB := Lib.hid hvb
      have Q2 := Lib.hid (Q3.out.1.alloc (.cells #[.int .i64 x] 3))
      have N2 := Lib.hid (show ∀ j u, (eC x)[j]? = some u → (w4.alloc (.cells #[.int .i64 x] 3)).cell? ((⟨vb, 0, none⟩ : Addr).add j) = some u from fun j u hu => by
        rw [Addr.add_mid, Nat.zero_add, hvb, (Bk.new w4 _ _).cell]
        simpa using hu)
      clear hvb
      go_wp2_with (first | (rw [← VB.out]; refine wpList_append_rk rfl _ _ 56 rfl I _ 8 Tryd.underlying56 HI.out HZ.out HSZ.out HBY.out rfl eC_len (by decide) eC_one _ q.eg rfl Q2.out.eg x ⟨vb, 0, none⟩ 1 rfl N2.out (by have := LE.out; omega) (by have := LE.out; omega) ?_; intro v5 w5 hr5 hg5; obtain ⟨xa5, n5, xc5, rfl⟩ : ∃ a n c, v5 = .slice a n c := (by obtain ⟨a, c, hx⟩ := hr5.slice; exact ⟨_, _, _, hx⟩); have kp5 := Kpf.of_only (F := fun i => (Value.slice ea q.eg.length ec).ownBlock = some i) hg5 (fun k hk => hk); have Q5 := Lib.hid (Q2.out.put1 kp5 (fun i h => .inl h) hr5); have b5 := kp_apart Q2.out.eg kp5 Q2.out.bk (by decide); have c5 : w5.cell? ⟨g, 1, none⟩ = some (.slice ea q.eg.length ec) := (by rw [World.cell?_of_block (w := w4.alloc (.cells #[.int .i64 x] 3)) b5]; exact Q2.out.bk.cell 1); have fz5 : w5.frozen? ⟨g, 1, none⟩ = false := (by rw [World.frozen?_of_block (w := w4.alloc (.cells #[.int .i64 x] 3)) b5]; exact Q2.out.bk.fz 1); clear hr5 hg5 kp5 b5 z4 fr))
      rw [← HP.out, EQ.out]
      have hk2 : Kpf F w (w4.alloc (.cells #[.int .i64 x] 3)) := K4.out.alloc _
      refine ⟨rfl, hk2.same Q5.out.2, .slice (some ⟨b, off, none⟩) q.hs.length cap, .slice xa5 n5 xc5, .slice wa q.ws.length wc, ?_⟩
      rw [SET.out]
      refine Q5.out.1.mono fun j hj => ?_
      rcases hj with hj | hj
      · exact .inl hj
      · exact .inr ⟨Nat.le_trans hk2.size hj.1, by simpa [World.setCell] using hj.2⟩
theorem ask_any {w : World} {F : Nat → Prop} {g : Nat} {vh ve vw : Value} {q : Que} (h : Qm w F g vh ve vw q) (hT : Tab w) (hbd : q.bd) (hs : q.hs.Pairwise fun a b => a.x < b.x) {N : Nat} (hb : q.few N) (hN : N ≤ 100000) (x : Int) (m : Nat) (hm : m ≤ 6) :
    Calls Tryd.prog 21 #[.pointer (some ⟨g, 0, none⟩), .int .i64 x, .int .i64 (m : Int)] w (AskPost w F g (q.ask cpN jnN x m).1 (q.ask cpN jnN x m).2) := by
  cases hg : getH x q.hs with
  | none => exact ask_none h hT hbd hs hb hN x m hm hg
  | some h0 => exact ask_have h hT hbd hs hb hN x m hm h0 hg
end Go.Proofs.YtnpnpkaklamboaaDoor
