/- (*Table).Arcs. -/
import Derived.Test.YtnpnpkaklamboaaDoorLkCmp
set_option linter.unusedVariables false
set_option linter.unusedSimpArgs false
namespace Go.Proofs.YtnpnpkaklamboaaDoor
open Go.RowKit Go.Shelf Go.Maps

theorem MpR.cnt_le {w : World} {P : Program} {k : TypeId} {b r n cnt : Nat} {f : Lit → Option Value} {left : Lit → Bool} (h : MpR w P k b r n f left cnt) : cnt ≤ n := by
  obtain ⟨D, ⟨es, clock, since, seen, c0, h1, h2, h3, h4, h5, h6, h7, _⟩, d⟩ := h
  subst h7
  refine Nat.le_trans ?_ h3
  unfold leftOf
  rw [← Array.length_toList, Array.toList_filter, ← Array.length_toList]
  exact List.length_filter_le _ _
theorem dd_len {α : Type} [DecidableEq α] (l : List α) : ∀ n, (dd l n).length ≤ n
  | 0 => Nat.le_refl _
  | n + 1 => by
    have := dd_len l n
    rw [dd]
    split
    · omega
    · split
      · omega
      · simp; omega
theorem arcs_len2 {q : Que} {N : Nat} (h : q.few N) (hN : N ≤ 310) : q.arcs.length ≤ 200000 := by
  obtain ⟨h1, _⟩ := h
  unfold Que.arcs
  rw [List.length_append]
  have a := fm_len (l := q.hs) (f := aH q.hs) fun o _ => aH_len q.hs o
  have b := fm_len (l := List.range q.ws.length) (f := aW q) fun i _ => aW_len (q := q) i
  rw [List.length_range] at b
  have c : q.hs.length * q.hs.length ≤ 310 * 310 := Nat.mul_le_mul (by omega) (by omega)
  have d : q.ws.length * (q.hs.length + q.ws.length) ≤ 310 * 310 := Nat.mul_le_mul (by omega) (by omega)
  omega
/-- An arc of the table. -/
def Tbl.arc (T : Tbl) (p : Int × Int) : Prop := ∃ n q, T.qs n = some q ∧ p ∈ q.arcs
/-- What Arcs gives. -/
def Tbl.arcsOf (T : Tbl) (A : List (Int × Int)) : Prop := A.Pairwise (fun x y => pl x y ∧ x ≠ y) ∧ ∀ p, p ∈ A ↔ T.arc p
theorem pl_anti (x y : Int × Int) (h1 : pl x y) (h2 : pl y x) : x = y := by
  obtain ⟨a, b⟩ := x
  obtain ⟨c, d⟩ := y
  unfold pl at *
  dsimp only at *
  have : a = c ∧ b = d := by omega
  rw [this.1, this.2]
/-- Arcs under way: those of the names that have been met. -/
structure AR (w0 : World) (t a b r C : Nat) (T : Tbl) (F : Nat → Prop) (fq : Lit → Option Value) (gq : Nm → Nat) (Fn : Nm → Nat → Prop) (w : World) (v : Value) (A : List (Int × Int)) (left : Lit → Bool) (cnt : Nat) : Prop where
  tx : Tx w F t a b C T fq gq Fn
  mr : MpR w Tryd.prog 27 a r C fq left cnt
  kp : Below w0.heap.size w0 w
  row : Rk w (fun i => r + 1 ≤ i) 41 2 pC v A
  fl : ∀ i, F i → i < w0.heap.size
  r0 : r = w0.heap.size
  rt : 0 < w0.heap.size
  mem : ∀ p, p ∈ A ↔ ∃ n q, T.qs n = some q ∧ left (nk n) = false ∧ p ∈ q.arcs
  len : A.length + cnt * 200000 ≤ C * 200000
section
variable {w0 w w' : World} {t a b r C : Nat} {T : Tbl} {F : Nat → Prop} {fq : Lit → Option Value} {gq : Nm → Nat} {Fn : Nm → Nat → Prop} {v v' : Value} {A : List (Int × Int)} {left : Lit → Bool} {cnt : Nat}
theorem AR.iter (h : AR w0 t a b r C T F fq gq Fn w v A left cnt) (hg : w.grownBy w' (some r)) : Tx w' F t a b C T fq gq Fn ∧ Below w0.heap.size w0 w' ∧ Rk w' (fun i => r + 1 ≤ i) 41 2 pC v A := by
  have un : ∀ i, i < w.heap.size → i ≠ r → w'.heap[i]? = w.heap[i]? := fun i hi hne => hg.block i hi fun e => hne (Option.some.inj e)
  have sz := h.kp.size
  have r0 := h.r0
  have hb : Below w0.heap.size w w' := ⟨hg.os, hg.tape, hg.output, hg.size, fun i hi => un i (by omega) (by omega)⟩
  have e := hb.block 0 h.rt
  exact ⟨h.tx.same hg.size (fun i hi => hb.block i (h.fl i hi)) ⟨Nat.lt_of_lt_of_le h.tx.tab.1 hg.size, fun i hi => by rw [World.cell?_of_block (w := w) e]; exact h.tx.tab.2 i hi⟩, h.kp.trans hb, h.row.same fun i hi hlt => un i hlt (by omega)⟩
/-- A name's queue, as its arcs want it. -/
theorem AR.start (h : AR w0 t a b r C T F fq gq Fn w v A left cnt) (hg : w.grownBy w' (some r)) {n : Nm} {q : Que} (hq : T.qs n = some q) : ∃ vh ve vw, AM (r + 1) w' (Fn n) (gq n) vh ve vw q w' v A := by
  obtain ⟨i1, i2, i3⟩ := h.iter hg
  obtain ⟨vh, ve, vw, hm⟩ := i1.qm n q hq
  have r0 := h.r0
  have lt := h.mr.lt
  exact ⟨vh, ve, vw, Below.refl _ w', hm, i3, i1.tab, fun i hi => by have := h.fl i (i1.sub n i hi).1; omega, by have := h.rt; omega, Nat.le_trans lt hg.size⟩
/-- A name's arcs are laid to the rest. -/
theorem AR.more (h : AR w0 t a b r C T F fq gq Fn w v A left cnt) {n : Nm} {q : Que} (hn : n.wf) (hq : T.qs n = some q) {cnt' : Nat} (hc : cnt' < cnt) {w1 : World} (hm : MpR w1 Tryd.prog 27 a r C fq (fun z => left z && !z.sameKey (nk n)) cnt') (hg : w.grownBy w1 (some r))
    {vh ve vw : Value} (hA : AM (r + 1) w1 (Fn n) (gq n) vh ve vw q w' v' (A ++ q.arcs)) (hlen : q.arcs.length ≤ 200000) : AR w0 t a b r C T F fq gq Fn w' v' (A ++ q.arcs) (fun z => left z && !z.sameKey (nk n)) cnt' := by
  obtain ⟨i1, i2, i3⟩ := h.iter hg
  have r0 := h.r0
  have kp := hA.kp
  refine ⟨i1.same kp.size (fun i hi => kp.block i (by have := h.fl i hi; omega)) hA.tab, hm.of_blocks (kp.block a (by have := h.fl a i1.fa; omega)) (kp.block r (by omega)), i2.trans (kp.mono (by omega)), hA.row, h.fl, h.r0, h.rt, fun p => ?_, ?_⟩
  · rw [List.mem_append, h.mem]
    constructor
    · rintro (⟨k, q2, h1, h2, h3⟩ | h3)
      · exact ⟨k, q2, h1, by rw [h2]; rfl, h3⟩
      · exact ⟨n, q, hq, by rw [nk_same hn hn]; simp, h3⟩
    · rintro ⟨k, q2, h1, h2, h3⟩
      rw [nk_same (i1.wf k q2 h1) hn] at h2
      by_cases e : k = n
      · subst e
        rw [hq] at h1
        injection h1 with h1
        subst h1
        exact .inr h3
      · refine .inl ⟨k, q2, h1, ?_, h3⟩
        simpa [e] using h2
  · have := h.len
    rw [List.length_append]
    have : cnt' * 200000 + 200000 ≤ cnt * 200000 := by omega
    omega
end
set_option maxRecDepth 100000 in
set_option maxHeartbeats 8000000 in
theorem table_arcs {w : World} {F : Nat → Prop} {t C N : Nat} {T : Tbl} (h : Tm w F t C T) (hfew : T.few N) (hbd : T.bd) (hN : N ≤ 310) (hC : C ≤ 4000) :
    Calls Tryd.prog 14 #[ptr t] w fun e w' => ∃ v' A, e = .returned v' ∧ T.arcsOf A ∧ A.length ≤ 1000000000 ∧ Rk w' (fun i => w.heap.size ≤ i) 41 2 pC v' A ∧ Below w.heap.size w w' := by
  obtain ⟨a, b, fq, gq, Fn, h0⟩ := h
  have y0 : w.cell? ⟨t, 0, none⟩ = some (.map (some a)) := h0.bk.cell 0
  have H0 := Lib.hid h0
  have FW := Lib.hid hfew
  have BD := Lib.hid hbd
  have NN := Lib.hid hN
  have CC := Lib.hid hC
  clear h0 hfew hbd hN hC
  obtain ⟨r, hr⟩ : ∃ r, r = w.heap.size := ⟨_, rfl⟩
  have HR := Lib.hid hr
  go_enter Tryd.func14, Tryd.ntmps14
  go_wp2_with (first
    | (at_range; refine wpList_mp_range _ rfl _ 51 rfl 27 55 nm_keyed Tryd.underlying51 a C _ rfl H0.out.mq ?_; rw [← hr]; intro w2 left0 cnt0 hl0 hr0 hg0 hs0)
    | fail)
  have M0 := Lib.hid (show AR w t a b r C T F fq gq Fn w2 (.slice none 0 0) [] left0 cnt0 from by
    have hb := below_only hg0
    exact ⟨H0.out.kept hb, hr0, hb, Rk.nil _ _ _ _ _, H0.out.bd, hr, H0.out.tab.1, fun p => ⟨fun h => (by cases h), fun ⟨n, q, h1, h2, _⟩ => by
      rw [hl0 _ (nk_lit n), H0.out.hq n (H0.out.wf n q h1), h1] at h2
      cases h2⟩, by have := hr0.cnt_le; simp; omega⟩)
  clear y0 hr hl0 hr0 hg0 hs0
  go_frame
  go_loopg [3, 5] cnt0 (fun gg s3 s5 wr => ∃ (left : Lit → Bool) (cnt : Nat) (A : List (Int × Int)) (v3 : Value), v3 = s3 ∧ cnt ≤ gg ∧ Hid (AR w t a b r C T F fq gq Fn wr v3 A left cnt))
  case atStart => exact ⟨left0, cnt0, [], _, rfl, Nat.le_refl _, M0⟩
  case round =>
    clear M0
    obtain ⟨left, cnt, A, v3, rfl, hgg, hI⟩ := hrel
    have HG := Lib.hid hgg
    clear hgg
    go_wp2_with (first
      | (at_next; refine wpList_nm_next _ rfl _ rfl a r C fq left cnt rfl hI.out.mr ?_ ?_)
      | fail)
    · intro _ hl0
      have MM := Lib.hid (show ∀ p, p ∈ A ↔ T.arc p from fun p => by
        rw [hI.out.mem]
        exact ⟨fun ⟨n, q, h1, _, h3⟩ => ⟨n, q, h1, h3⟩, fun ⟨n, q, h1, h3⟩ => ⟨n, q, h1, hl0 _, h3⟩⟩)
      have LN := Lib.hid (show A.length ≤ 800000000 by have := hI.out.len; have := CC.out; omega)
      have KP := Lib.hid hI.out.kp
      have RW := Lib.hid (show Rk wr (fun i => w.heap.size ≤ i) 41 2 pC v3 A from hI.out.row.mono fun i hi => by have := HR.out; omega)
      have CS := Lib.hid (sort_arcs RW.out (by have := LN.out; omega))
      obtain ⟨va, vc, hv⟩ := RW.out.slice
      subst hv
      clear hl0 hI
      go_wp2_with fail
      refine CS.out.mono ?_
      rintro e w3 ⟨rfl, A2, hp, hs, hr3, hg3⟩
      have kpf : Kpf (fun i => (Value.slice va A.length vc).ownBlock = some i) wr w3 := .of_only hg3 fun k hk => hk
      have own := own_in RW.out
      have SS := Lib.hid hs
      have PP := Lib.hid hp
      have K3 := Lib.hid (show Below w.heap.size w w3 from KP.out.trans (kpf.to_below KP.out.size own))
      have R3 := Lib.hid hr3
      have CP := Lib.hid (compact_any w3 _ (.slice va A.length vc) A2 hr3 (by rw [hp.length_eq]; have := LN.out; omega))
      clear hp hs hr3 hg3 kpf own CS KP RW
      go_wp2_with fail
      refine CP.out.mono ?_
      rintro e w4 ⟨v4, rfl, hr4, hk4⟩
      have K4 := Lib.hid (show Below w.heap.size w w4 from K3.out.trans (hk4.to_below K3.out.size (own_in R3.out)))
      have R4 := Lib.hid hr4
      have LD := Lib.hid (show (dd A2 A2.length).length ≤ 1000000000 from by
        have := dd_len A2 A2.length
        have := LN.out
        have := PP.out.length_eq
        omega)
      have AO := Lib.hid (show T.arcsOf (dd A2 A2.length) from ⟨dd_sorted pl_anti SS.out _ (Nat.le_refl _), fun p => by
        rw [dd_mem _ (Nat.le_refl _), List.take_length, PP.out.mem_iff]
        exact MM.out p⟩)
      clear CP hr4 hk4
      go_wp2
      go_ret
      exact ⟨_, _, rfl, AO.out, LD.out, R4.out, K4.out⟩
    · intro n c w1 cnt1 hnw hln hfn hm1 hc1 hg1 hs1 hen
      obtain ⟨q, hq, rfl⟩ : ∃ q, T.qs n = some q ∧ c = ptr (gq n) := by
        rw [hI.out.tx.hq n hnw] at hfn
        cases e : T.qs n with
        | none => rw [e] at hfn; cases hfn
        | some q => rw [e] at hfn; exact ⟨q, rfl, (Option.some.inj hfn).symm⟩
      obtain ⟨vh, ve, vw, hA⟩ := hI.out.start hg1 hq
      have AC := Lib.hid (arcs_any hA (BD.out n q hq) (FW.out n q hq) (Nat.le_trans NN.out (by decide)) (by have := hI.out.len; have := CC.out; omega))
      have C1 := Lib.hid (Nat.lt_of_lt_of_le hc1 HG.out)
      have MO := Lib.hid (fun (w' : World) (v' : Value) (hA : AM (r + 1) w1 (Fn n) (gq n) vh ve vw q w' v' (A ++ q.arcs)) => hI.out.more hnw hq hc1 hm1 hg1 hA (arcs_len2 (FW.out n q hq) NN.out))
      obtain ⟨va, vc, hv⟩ := hI.out.row.slice
      subst hv
      clear hI hnw hln hfn hm1 hc1 hg1 hs1 HG hq hA
      go_wp2_with fail
      refine AC.out.mono ?_
      rintro e w3 ⟨v4, rfl, hA⟩
      have M3 := Lib.hid (MO.out w3 v4 hA)
      clear AC MO hA
      go_wp2
      go_roundg cnt1
      case measure => exact C1.out
      case rel => exact ⟨_, cnt1, _, _, rfl, Nat.le_refl _, M3⟩
end Go.Proofs.YtnpnpkaklamboaaDoor
