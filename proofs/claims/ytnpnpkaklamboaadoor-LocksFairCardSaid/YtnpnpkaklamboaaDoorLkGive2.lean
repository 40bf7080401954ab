/- What can be given is given. -/
import Derived.Test.YtnpnpkaklamboaaDoorLkGive
import Derived.Deep.RegionLawGrows
set_option linter.unusedVariables false
set_option linter.unusedSimpArgs false
namespace Go.Proofs.YtnpnpkaklamboaaDoor
open Go.RowKit Go.Shelf

theorem Tab.kpf {F : Nat → Prop} {w w' : World} (h : Tab w) (k : Kpf F w w') (hF : ¬ F 0) : Tab w' := by
  have hb := k.block 0 h.1 hF
  exact ⟨Nat.lt_of_lt_of_le h.1 k.size, fun i hi => by rw [World.cell?_of_block (w := w) hb]; exact h.2 i hi⟩
theorem erase_at : ∀ (l : List Int) (i : Nat) (hi : i < l.length), l.Nodup → l.eraseIdx i = l.erase l[i]
  | x :: l, 0, _, _ => by simp
  | x :: l, i + 1, hi, hn => by
    rw [List.nodup_cons] at hn
    have hi2 : i < l.length := by simpa using hi
    have hne : x ≠ l[i] := fun e => hn.1 (by rw [e]; exact List.getElem_mem hi2)
    rw [List.getElem_cons_succ, List.eraseIdx_cons_succ, List.erase_cons_tail (by simpa using hne), erase_at l i hi2 hn.2]
theorem ripe_at {cp : Nat → Nat → Bool} {q : Que} : (idxP (fun x => q.free cp x (q.wantOf x)) q.eg = -1 ∧ q.ripe cp = none) ∨ ∃ (i : Nat) (hi : i < q.eg.length), idxP (fun x => q.free cp x (q.wantOf x)) q.eg = (i : Int) ∧ q.ripe cp = some q.eg[i] := by
  rcases idxP_spec (fun x => q.free cp x (q.wantOf x)) q.eg with ⟨h1, h2⟩ | ⟨i, hi, h1, h2, h3⟩
  · exact .inl ⟨h1, by unfold Que.ripe; rw [List.find?_eq_none]; intro x hx; rw [h2 x hx]; simp⟩
  · exact .inr ⟨i, hi, h1, by unfold Que.ripe; rw [List.find?_eq_some_iff_getElem]; exact ⟨h2, i, hi, rfl, fun j hj => by rw [h3 j (by omega) hj]; rfl⟩⟩
theorem Qm.by_own {w w' : World} {F : Nat → Prop} {g : Nat} {vh ve vw : Value} {q : Que} (h : Qm w F g vh ve vw q) (hb : ∀ i, (i = g ∨ vh.ownBlock = some i ∨ ve.ownBlock = some i ∨ vw.ownBlock = some i) → w'.heap[i]? = w.heap[i]?) : Qm w' F g vh ve vw q := by
  have rk : ∀ {α : Type} {e : TypeId} {k : Nat} {enc : α → List Value} {v : Value} {l : List α}, Rk w F e k enc v l → (∀ i, v.ownBlock = some i → w'.heap[i]? = w.heap[i]?) → Rk w' F e k enc v l := fun hr hv => by
    rcases hr with hr | ⟨b, off, cap, cur, hv2, hF, hr⟩
    · exact .inl hr
    · exact .inr ⟨b, off, cap, cur, hv2, hF, hr.same (hv b (by rw [hv2]; rfl))⟩
  exact ⟨h.fg, (hb g (.inl rfl)).trans h.bk, rk h.hs fun i hi => hb i (.inr (.inl hi)), rk h.eg fun i hi => hb i (.inr (.inr (.inl hi))), rk h.ws fun i hi => hb i (.inr (.inr (.inr hi)))⟩
/-- What stands in memory in the midst of giving. -/
structure GM (w0 : World) (F : Nat → Prop) (g K : Nat) (wr : World) (v3 vh ve vw : Value) (q : Que) (done : List Int) : Prop where
  qm : Qm wr (Ext F w0 wr) g vh ve vw q
  own : ∀ k, ve.ownBlock = some k → k < w0.heap.size
  kp : Kpf F w0 wr
  kc : Bk wr K 55 #[.pointer (some ⟨g, 0, none⟩)]
  row : Rk wr (fun i => w0.heap.size ≤ i) 3 1 eC v3 done
  tab : Tab wr
  nf : ¬ F 0 ∧ 0 < w0.heap.size
section
variable {w0 wr w' : World} {F : Nat → Prop} {g K : Nat} {v3 vh ve vw : Value} {q : Que} {done : List Int}
theorem GM.ntab (h : GM w0 F g K wr v3 vh ve vw q done) : ¬ Ext F w0 wr 0 := fun e => by
  rcases e with e | e
  · exact h.nf.1 e
  · have := h.nf.2; omega
theorem GM.below (h : GM w0 F g K wr v3 vh ve vw q done) (hb : Below wr.heap.size wr w') : GM w0 F g K w' v3 vh ve vw q done :=
  ⟨(h.qm.kept hb).mono fun i hi => ext_more hb.size hi, h.own, h.kp.same (.of_below hb), h.kc.kept hb, h.row.kept hb, h.tab.below hb, h.nf⟩
theorem GM.step (h : GM w0 F g K wr v3 vh ve vw q done) (k : Kpf (Ext F w0 wr) wr w') : Kpf F w0 w' ∧ Tab w' := ⟨h.kp.trans k fun i hi => by
  rcases hi with hi | hi
  · exact .inl hi
  · exact .inr hi.1, h.tab.kpf k h.ntab⟩
/-- A hold has what it wanted. -/
theorem GM.hold (h : GM w0 F g K wr v3 vh ve vw q done) {b off cap : Nat} {cur : Array Value} (hF : Ext F w0 wr b) (hA : RkAt wr 66 3 hC b off cap cur q.hs) (hv : vh = .slice (some ⟨b, off, none⟩) q.hs.length cap) {p : Nat} (hp : p < q.hs.length) (x : Int) (a b' : Nat) (hh : q.hs[p] = ⟨x, a, b'⟩) :
    GM w0 F g K ((wr.setCell ⟨b, off + p * 3 + 1, none⟩ (.int .i64 (b' : Int))).setCell ⟨b, off + p * 3 + 2, none⟩ (.int .i64 0)) v3 vh ve vw ⟨q.hs.set p ⟨x, b', 0⟩, q.eg, q.ws⟩ done ∧ ∃ cur', RkAt ((wr.setCell ⟨b, off + p * 3 + 1, none⟩ (.int .i64 (b' : Int))).setCell ⟨b, off + p * 3 + 2, none⟩ (.int .i64 0)) 66 3 hC b off cap cur' (q.hs.set p ⟨x, b', 0⟩) := by
  have s1 := h.qm.setc hF hA hv hp 1 (by decide) (.int .i64 (b' : Int)) ⟨x, b', b'⟩ (by rw [hh]; exact m_cell ⟨x, a, b'⟩ b')
  have hA1 : RkAt (wr.setCell ⟨b, off + p * 3 + 1, none⟩ (.int .i64 (b' : Int))) 66 3 hC b off cap _ (q.hs.set p ⟨x, b', b'⟩) := hA.set hC_len p hp 1 (by decide) _ _ (by rw [hh]; exact m_cell ⟨x, a, b'⟩ b')
  have s2 := s1.1.setc (q := ⟨q.hs.set p ⟨x, b', b'⟩, q.eg, q.ws⟩) hF hA1 (by rw [hv]; simp) (i := p) (by simpa using hp) 2 (by decide) (.int .i64 0) ⟨x, b', 0⟩ (by
    have := w_cell ⟨x, b', b'⟩ 0
    simpa using this)
  have k2 : Kpf (Ext F w0 wr) wr ((wr.setCell ⟨b, off + p * 3 + 1, none⟩ (.int .i64 (b' : Int))).setCell ⟨b, off + p * 3 + 2, none⟩ (.int .i64 0)) := s1.2.same s2.2
  have st := h.step k2
  have e : q.hs.set p ⟨x, b', 0⟩ = (q.hs.set p ⟨x, b', b'⟩).set p ⟨x, b', 0⟩ := by rw [List.set_set]
  refine ⟨?_, _, by rw [e]; exact hA1.set hC_len p (by simpa using hp) 2 (by decide) (.int .i64 0) ⟨x, b', 0⟩ (by
    have := w_cell ⟨x, b', b'⟩ 0
    simpa using this)⟩
  refine ⟨by rw [e]; exact s2.1.mono fun i hi => ext_more k2.size hi, h.own, st.1, (h.kc.far (p := ⟨b, off + p * 3 + 1, none⟩) (Bk.ne_ h.kc hA.bk (by decide)) _).far (p := ⟨b, off + p * 3 + 2, none⟩) (Bk.ne_ h.kc hA.bk (by decide)) _, (h.row.set_far hA.bk (by decide) _ _).set_far hA1.bk (by decide) _ _, st.2, h.nf⟩
/-- One more has been given something. -/
theorem GM.given (h : GM w0 F g K wr v3 vh ve vw q done) {v3' : Value} {x : Int} (hg : wr.grownBy w' v3.ownBlock) (hr : Rk w' (Ext (fun i => w0.heap.size ≤ i) wr w') 3 1 eC v3' (done ++ [x])) : GM w0 F g K w' v3' vh ve vw q (done ++ [x]) := by
  have hge : ∀ k, v3.ownBlock = some k → w0.heap.size ≤ k := own_in h.row
  have ty : ∀ k, v3.ownBlock = some k → ∃ cs, Bk wr k 3 cs := fun k hk => by
    rcases h.row with ⟨hv, _⟩ | ⟨b, off, cap, cur, hv, _, hA⟩
    · rw [hv] at hk; cases hk
    · rw [hv] at hk
      obtain rfl : b = k := by simpa [Value.ownBlock] using hk
      exact ⟨_, hA.bk⟩
  have un : ∀ i, i < wr.heap.size → v3.ownBlock ≠ some i → w'.heap[i]? = wr.heap[i]? := fun i hi hne => hg.block i hi fun e => hne e.symm
  have apart : ∀ {i : Nat} {t : TypeId} {cs : Array Value}, Bk wr i t cs → t ≠ 3 → w'.heap[i]? = wr.heap[i]? := fun hb hne => un _ hb.lt fun e => by
    obtain ⟨cs', hb'⟩ := ty _ e
    exact Bk.ne_ hb hb' hne rfl
  have ownty : ∀ {α : Type} {e : TypeId} {k : Nat} {enc : α → List Value} {v : Value} {l : List α} {F' : Nat → Prop}, Rk wr F' e k enc v l → ∀ i, v.ownBlock = some i → ∃ cs, Bk wr i e cs := fun hr i hi => by
    rcases hr with ⟨hv, _⟩ | ⟨b, off, cap, cur, hv, _, hA⟩
    · rw [hv] at hi; cases hi
    · rw [hv] at hi
      obtain rfl : b = i := by simpa [Value.ownBlock] using hi
      exact ⟨_, hA.bk⟩
  have qm : Qm w' (Ext F w0 wr) g vh ve vw q := h.qm.by_own fun i hi => by
    rcases hi with rfl | hi | hi | hi
    · exact apart h.qm.bk (by decide)
    · obtain ⟨cs, hb⟩ := ownty h.qm.hs i hi; exact apart hb (by decide)
    · refine un i (own_lt h.qm.eg i hi) fun e => ?_
      have := hge i e
      have := h.own i hi
      omega
    · obtain ⟨cs, hb⟩ := ownty h.qm.ws i hi; exact apart hb (by decide)
  have rt : w'.heap[0]? = wr.heap[0]? := un _ h.tab.1 fun e => by have := hge _ e; have := h.nf.2; omega
  refine ⟨qm.mono fun i hi => ext_more hg.size hi, h.own, ⟨hg.os.trans h.kp.os, hg.tape.trans h.kp.tape, hg.output.trans h.kp.output, Nat.le_trans h.kp.size hg.size, fun i hi hn => (un i (Nat.lt_of_lt_of_le hi h.kp.size) fun e => by have := hge i e; omega).trans (h.kp.block i hi hn)⟩, (apart h.kc (by decide)).trans h.kc, hr.mono fun i hi => ?_, ⟨Nat.lt_of_lt_of_le h.tab.1 hg.size, fun i hi => by rw [World.cell?_of_block (w := wr) rt]; exact h.tab.2 i hi⟩, h.nf⟩
  rcases hi with hi | hi
  · exact hi
  · exact Nat.le_trans h.kp.size hi.1
theorem rk_own {α : Type} {w : World} {F : Nat → Prop} {e : TypeId} {k : Nat} {enc : α → List Value} {v : Value} {l : List α} (h : Rk w F e k enc v l) : Rk w (fun i => v.ownBlock = some i) e k enc v l := by
  rcases h with h | ⟨b, off, cap, cur, hv, hF, hr⟩
  · exact .inl h
  · exact .inr ⟨b, off, cap, cur, hv, by rw [hv]; rfl, hr⟩
/-- One eager less. -/
theorem GM.eager (h : GM w0 F g K wr v3 vh ve vw q done) {ve' : Value} {l' : List Int} (hk : Kpf (fun i => ve.ownBlock = some i) wr w') (hr : Rk w' (fun i => ve.ownBlock = some i) 3 1 eC ve' l') : GM w0 F g K (w'.setCell ⟨g, 1, none⟩ ve') v3 vh ve' vw ⟨q.hs, l', q.ws⟩ done := by
  have p := h.qm.put1 hk (fun i h => h) (hr.mono (own_in h.qm.eg))
  have st := h.step p.2
  have kc' : Bk w' K 55 #[.pointer (some ⟨g, 0, none⟩)] := (kp_apart h.qm.eg hk h.kc (by decide)).trans h.kc
  have hb' : Bk w' g 61 #[vh, ve, vw] := (kp_apart h.qm.eg hk h.qm.bk (by decide)).trans h.qm.bk
  have row' : Rk w' (fun i => w0.heap.size ≤ i) 3 1 eC v3 done := h.row.same fun i hi hlt => hk.block i hlt fun e => by have := h.own i e; omega
  exact ⟨p.1.mono fun i hi => ext_more p.2.size hi, fun k hk' => h.own k (own_in hr k hk'), st.1, kc'.far (p := ⟨g, 1, none⟩) (Bk.ne_ kc' hb' (by decide)) _, row'.set_far hb' (by decide) _ _, st.2, h.nf⟩
/-- The wishes begin behind the first. -/
theorem GM.wishes (h : GM w0 F g K wr v3 vh ve vw q done) {vw' : Value} {l' : List (Int × Nat)} (hr : Rk wr (Ext F w0 wr) 68 2 wC vw' l') : GM w0 F g K (wr.setCell ⟨g, 2, none⟩ vw') v3 vh ve vw' ⟨q.hs, q.eg, l'⟩ done := by
  have p := h.qm.put2 (Kpf.refl _ wr) (fun i h => h) hr
  have st := h.step p.2
  exact ⟨p.1.mono fun i hi => ext_more p.2.size hi, h.own, st.1, h.kc.far (p := ⟨g, 2, none⟩) (Bk.ne_ h.kc h.qm.bk (by decide)) _, h.row.set_far h.qm.bk (by decide) _ _, st.2, h.nf⟩
/-- The blocks of a queue, no more. -/
def Mn (g : Nat) (vh ve vw : Value) (i : Nat) : Prop := i = g ∨ vh.ownBlock = some i ∨ ve.ownBlock = some i ∨ vw.ownBlock = some i
theorem Qm.mn {w : World} {F : Nat → Prop} {g : Nat} {vh ve vw : Value} {q : Que} (h : Qm w F g vh ve vw q) : Qm w (Mn g vh ve vw) g vh ve vw q :=
  ⟨.inl rfl, h.bk, (rk_own h.hs).mono fun i hi => .inr (.inl hi), (rk_own h.eg).mono fun i hi => .inr (.inr (.inl hi)), (rk_own h.ws).mono fun i hi => .inr (.inr (.inr hi))⟩
theorem Qm.mn_in {w : World} {F : Nat → Prop} {g : Nat} {vh ve vw : Value} {q : Que} (h : Qm w F g vh ve vw q) : ∀ i, Mn g vh ve vw i → F i := fun i hi => by
  rcases hi with rfl | hi | hi | hi
  · exact h.fg
  · exact own_in h.hs i hi
  · exact own_in h.eg i hi
  · exact own_in h.ws i hi
theorem own_bk {α : Type} {w : World} {F : Nat → Prop} {e : TypeId} {k : Nat} {enc : α → List Value} {v : Value} {l : List α} (h : Rk w F e k enc v l) : ∀ i, v.ownBlock = some i → ∃ cs, Bk w i e cs := fun i hi => by
  rcases h with ⟨hv, _⟩ | ⟨b, off, cap, cur, hv, _, hA⟩
  · rw [hv] at hi; cases hi
  · rw [hv] at hi
    obtain rfl : b = i := by simpa [Value.ownBlock] using hi
    exact ⟨_, hA.bk⟩
/-- A hold is added. -/
theorem GM.added (h : GM w0 F g K wr v3 vh ve vw q done) {vh' : Value} {q' : Que} (hk : Kpf (Mn g vh ve vw) wr w') (hq : Qm w' (Ext (Mn g vh ve vw) wr w') g vh' ve vw q') : GM w0 F g K w' v3 vh' ve vw q' done := by
  have st := h.step (hk.mono h.qm.mn_in)
  have nk : ¬ Mn g vh ve vw K := fun e => by
    rcases e with e | e | e | e
    · exact Bk.ne_ h.kc h.qm.bk (by decide) e
    · obtain ⟨cs, hb⟩ := own_bk h.qm.hs K e; exact Bk.ne_ h.kc hb (by decide) rfl
    · obtain ⟨cs, hb⟩ := own_bk h.qm.eg K e; exact Bk.ne_ h.kc hb (by decide) rfl
    · obtain ⟨cs, hb⟩ := own_bk h.qm.ws K e; exact Bk.ne_ h.kc hb (by decide) rfl
  have row' : Rk w' (fun i => w0.heap.size ≤ i) 3 1 eC v3 done := by
    refine ((rk_own h.row).same fun i hi hlt => hk.block i hlt fun e => ?_).mono (own_in h.row)
    obtain ⟨cs, hb⟩ := own_bk h.row i hi
    rcases e with e | e | e | e
    · exact Bk.ne_ hb h.qm.bk (by decide) e
    · obtain ⟨cs', hb'⟩ := own_bk h.qm.hs i e; exact Bk.ne_ hb hb' (by decide) rfl
    · have := h.own i e; have := own_in h.row i hi; omega
    · obtain ⟨cs', hb'⟩ := own_bk h.qm.ws i e; exact Bk.ne_ hb hb' (by decide) rfl
  exact ⟨hq.mono fun i hi => ext_ext h.kp.size hk.size (ext_mono h.qm.mn_in hi), h.own, st.1, hk.bk h.kc nk, row', st.2, h.nf⟩
end
theorem give1_step {cp : Nat → Nat → Bool} {q : Que} {x : Int} (hr : q.ripe cp = some x) : q.give1 cp q.eg.length = (((q.grantX x).give1 cp (q.grantX x).eg.length).1, x :: ((q.grantX x).give1 cp (q.grantX x).eg.length).2) := by
  have hx := (ripe_some hr).1
  have e1 : (q.grantX x).eg.length = q.eg.length - 1 := List.length_erase_of_mem hx
  have e2 : q.eg.length = (q.eg.length - 1) + 1 := by have := List.length_pos_of_mem hx; omega
  rw [e1]
  conv => lhs; rw [e2]
  rw [Que.give1]
  simp only [hr]
theorem give1_done {cp : Nat → Nat → Bool} {q : Que} (hr : q.ripe cp = none) : ∀ k, q.give1 cp k = (q, [])
  | 0 => rfl
  | k + 1 => by rw [Que.give1]; simp only [hr]
theorem give2_step {cp : Nat → Nat → Bool} {q : Que} {p : Int × Nat} {l : List (Int × Nat)} (hw : q.ws = p :: l) (hc : q.eg = [] ∧ q.free cp p.1 p.2 = true) : q.give2 cp q.ws.length = (((q.headW p l).give2 cp (q.headW p l).ws.length).1, p.1 :: ((q.headW p l).give2 cp (q.headW p l).ws.length).2) := by
  have e1 : (q.headW p l).ws.length = l.length := rfl
  have e2 : q.ws.length = l.length + 1 := by rw [hw]; rfl
  rw [e1, e2, Que.give2]
  simp only [hw]
  rw [if_pos hc]
theorem give2_done {cp : Nat → Nat → Bool} {q : Que} (hn : ∀ p l, q.ws = p :: l → ¬ (q.eg = [] ∧ q.free cp p.1 p.2 = true)) : ∀ k, q.give2 cp k = (q, [])
  | 0 => rfl
  | k + 1 => by
    rw [Que.give2]
    cases hw : q.ws with
    | nil => rfl
    | cons p l => dsimp only; rw [if_neg (hn p l hw)]
theorem grantX_at {q : Que} (h : q.ok cpN) {i : Nat} (hi : i < q.eg.length) {p : Nat} (hp : p < q.hs.length) (hx : q.hs[p].x = q.eg[i]) : q.grantX q.eg[i] = ⟨q.hs.set p ⟨q.eg[i], q.hs[p].w, 0⟩, q.eg.eraseIdx i, q.ws⟩ := by
  unfold Que.grantX
  rw [erase_at q.eg i hi h.en, ← hx, setH_at h.so _ hp]
/-- A row of wishes without its first. -/
theorem wish_tail {w : World} {F : Nat → Prop} {v : Value} {p : Int × Nat} {l : List (Int × Nat)} (h : Rk w F 68 2 wC v (p :: l)) : ∃ bw ow cw, v = .slice (some ⟨bw, ow, none⟩) (l.length + 1) cw ∧ l.length + 1 ≤ cw ∧ cw ≤ maxLen ∧ bw < w.heap.size ∧ (∀ w' : World, Below w.heap.size w w' → w'.rangeAt bw ow (wC p)) ∧
    ∃ v', v' = .slice (some ⟨bw, if cw = 1 then ow else ow + 2, none⟩) l.length (cw - 1) ∧ v'.ownBlock = some bw ∧ Rk w F 68 2 wC v' l := by
  rcases h with ⟨_, h⟩ | ⟨b, off, cap, cur, hv, hF, hA⟩
  · cases h
  · have hle := hA.le
    simp only [List.length_cons] at hle
    refine ⟨b, off, cap, hv, hle, hA.mx, hA.bk.lt, fun w' hb => ?_, _, rfl, rfl, ?_⟩
    · have := (hA.kept hb).range (j := 0) (by simp)
      simpa using this
    · by_cases hc : cap = 1
      · subst hc
        have : l = [] := List.eq_nil_of_length_eq_zero (by omega)
        subst this
        exact .inr ⟨b, off, 0, cur, rfl, hF, ⟨hA.bk, Nat.le_refl _, Nat.zero_le _, by have := hA.sz; omega, fun j hj => absurd hj (Nat.not_lt_zero _)⟩⟩
      · rw [if_neg hc]
        exact .inr ⟨b, off + 2, cap - 1, cur, rfl, hF, hA.tail⟩
structure LG (N : Nat) (q : Que) (done : List Int) : Prop where
  ok : q.ok cpN
  bd : q.bd
  few : q.few N
  len : done.length + q.eg.length + q.ws.length ≤ 2 * N
def GvPost (w : World) (F : Nat → Prop) (g : Nat) (q : Que) (e : Ending) (w' : World) : Prop := ∃ v3, e = .returned v3 ∧ Rk w' (fun i => w.heap.size ≤ i) 3 1 eC v3 (q.give cpN).2 ∧ Kpf F w w' ∧ ∃ vh' ve' vw', Qm w' (Ext F w w') g vh' ve' vw' (q.give cpN).1
theorem idx_give {w0 wr : World} {F : Nat → Prop} {g K N : Nat} {v3 vh ve vw : Value} {q : Que} {done : List Int} (h : GM w0 F g K wr v3 vh ve vw q done) (hl : LG N q done) (hN : N ≤ 100000) :
    Calls Tryd.prog 39 #[ve, .func (.func 40) #[] #[.pointer (some ⟨K, 0, none⟩)]] wr fun e w' => e = .returned (.int .i64 (idxP (fun x => q.free cpN x (q.wantOf x)) q.eg)) ∧ Below wr.heap.size wr w' :=
  idx_int wr _ ve q.eg (fun x => q.free cpN x (q.wantOf x)) _ _ (enters_of Tryd.func40 (by kernel_rfl) rfl) h.qm.eg (by have := hl.few.2; omega) fun W y hy hbl =>
    (gpred_any (h.qm.kept hbl) (h.tab.below hbl) hl.ok hl.bd (by have := hl.few.1; omega) K ((h.kc.kept hbl).cell 0) y hy).mono fun e w' ⟨h1, h2⟩ => ⟨h1, hbl.trans (h2.mono hbl.size)⟩
set_option maxRecDepth 100000 in
set_option maxHeartbeats 16000000 in
theorem give_any {w : World} {F : Nat → Prop} {g : Nat} {vh ve vw : Value} {q : Que} (h : Qm w F g vh ve vw q) (hF : ∀ i, F i → i < w.heap.size) (hT : Tab w) (hTF : ¬ F 0) (hok : q.ok cpN) (hbd : q.bd) {N : Nat} (hb : q.few N) (hN : N ≤ 100000) :
    Calls Tryd.prog 20 #[.pointer (some ⟨g, 0, none⟩)] w (GvPost w F g q) := by
  obtain ⟨K, hK⟩ : ∃ K, K = w.heap.size := ⟨_, rfl⟩
  have HK := Lib.hid hK
  have M0 := Lib.hid (show GM w F g K (w.alloc (.cells #[.pointer (some ⟨g, 0, none⟩)] 55)) (.slice none 0 0) vh ve vw q [] from
    ⟨(h.alloc _).mono fun i hi => .inl hi, fun k hk => hF k (own_in h.eg k hk), (Kpf.refl F w).alloc _, by rw [hK]; exact Bk.new w _ _, Rk.nil _ _ _ _ _, hT.below ((Below.refl w.heap.size w).alloc (Nat.le_refl _) _), ⟨hTF, hT.1⟩⟩)
  have L0 := Lib.hid (show LG N q [] from ⟨hok, hbd, hb, by have := hb.1; have := hb.2; simp; omega⟩)
  have HN := Lib.hid hN
  have SY := Lib.hid lawN.sy
  obtain ⟨I, hi, hz, hsz, hby⟩ := int_info
  have HI := Lib.hid hi
  have HZ := Lib.hid hz
  have HSZ := Lib.hid hsz
  have HBY := Lib.hid hby
  clear h hF hT hTF hok hbd hb hN hK hi hz hsz hby
  go_enter Tryd.func20, Tryd.ntmps20
  go_upto_region 1 with fail
  rw [← HK.out]
  generalize w.alloc (.cells #[.pointer (some ⟨g, 0, none⟩)] 55) = w1 at *
  go_wp2_with fail
  go_loopg [3] (q.eg.length) (fun gg s3 wr => ∃ (qj : Que) (vh ve vw : Value) (done : List Int), qj.eg.length ≤ gg ∧ Hid (GM w F g K wr s3 vh ve vw qj done ∧ LG N qj done ∧ q.give1 cpN q.eg.length = ((qj.give1 cpN qj.eg.length).1, done ++ (qj.give1 cpN qj.eg.length).2)))
  case atStart => exact ⟨q, vh, ve, vw, [], Nat.le_refl _, Lib.hid ⟨M0.out, L0.out, by simp⟩⟩
  case round =>
    clear M0 L0
    obtain ⟨qj, vh, ve, vw, done, hgg, hI⟩ := hrel
    obtain ⟨ea, ec, hve⟩ := hI.out.1.qm.eg.slice
    subst hve
    have IX := Lib.hid (idx_give hI.out.1 hI.out.2.1 HN.out)
    have y1 : wr.cell? ⟨g, 1, none⟩ = some (.slice ea qj.eg.length ec) := hI.out.1.qm.bk.cell 1
    have yk : wr.cell? ⟨K, 0, none⟩ = some (.pointer (some ⟨g, 0, none⟩)) := hI.out.1.kc.cell 0
    rcases ripe_at (cp := cpN) (q := qj) with ⟨hx, hrn⟩ | ⟨i, hil, hx, hrs⟩
    · rw [hx] at IX
      have EQA := Lib.hid (show q.give cpN = ((qj.give2 cpN qj.ws.length).1, done ++ (qj.give2 cpN qj.ws.length).2) from by
        have h1 := hI.out.2.2
        rw [give1_done hrn, List.append_nil] at h1
        unfold Que.give
        rw [h1])
      have M1 := Lib.hid hI.out.1
      have L1 := Lib.hid hI.out.2.1
      clear hI hgg hx hrn
      as_aux_lemma =>
        go_wp2_with fail
        refine IX.out.mono ?_
        rintro e w2 ⟨rfl, hb2⟩
        have M2 := Lib.hid (M1.out.below hb2)
        clear hb2 IX y1 yk M1
        go_wp2_with fail
        go_loopg [3] (qj.ws.length) (fun gg s3 wr => ∃ (q2 : Que) (vh ve vw : Value) (d2 : List Int), q2.ws.length ≤ gg ∧ Hid (GM w F g K wr s3 vh ve vw q2 d2 ∧ LG N q2 d2 ∧ q.give cpN = ((q2.give2 cpN q2.ws.length).1, d2 ++ (q2.give2 cpN q2.ws.length).2)))
        case atStart => exact ⟨qj, _, _, vw, done, Nat.le_refl _, Lib.hid ⟨M2.out, L1.out, EQA.out⟩⟩
        case round =>
          clear M2 L1 EQA
          obtain ⟨q2, vh, ve, vw, d2, hgg, hI⟩ := hrel
          have M1 := Lib.hid hI.out.1
          have L1 := Lib.hid hI.out.2.1
          have E1 := Lib.hid hI.out.2.2
          have HG := Lib.hid hgg
          obtain ⟨ea, ec, hve⟩ := hI.out.1.qm.eg.slice
          obtain ⟨wa, wc, hvw⟩ := hI.out.1.qm.ws.slice
          subst hve hvw
          obtain ⟨ne, hne⟩ : ∃ ne, ne = q2.eg.length := ⟨_, rfl⟩
          obtain ⟨nw, hnw⟩ : ∃ nw, nw = q2.ws.length := ⟨_, rfl⟩
          have NE := Lib.hid hne
          have NW := Lib.hid hnw
          have yk := fun x : Kp wr => show x.1.cell? ⟨K, 0, none⟩ = some (.pointer (some ⟨g, 0, none⟩)) from x.cell (hI.out.1.kc.cell 0)
          have y1 := fun x : Kp wr => show x.1.cell? ⟨g, 1, none⟩ = some (.slice ea ne ec) from x.cell (by rw [hne]; exact hI.out.1.qm.bk.cell 1)
          have y2 := fun x : Kp wr => show x.1.cell? ⟨g, 2, none⟩ = some (.slice wa nw wc) from x.cell (by rw [hnw]; exact hI.out.1.qm.bk.cell 2)
          have FIN := Lib.hid (fun (x : Kp wr) (hn : ∀ p l, q2.ws = p :: l → ¬ (q2.eg = [] ∧ q2.free cpN p.1 p.2 = true)) => show GvPost w F g q (.returned u3) x.1 from by
            have m := hI.out.1.below x.2
            have e := hI.out.2.2
            rw [give2_done hn, List.append_nil] at e
            exact ⟨_, rfl, by rw [e]; exact m.row, m.kp, _, _, _, by rw [e]; exact m.qm⟩)
          clear hI hgg hne hnw
          by_cases he : ne = 0
          · have he0 : q2.eg = [] := List.eq_nil_of_length_eq_zero (by rw [← NE.out]; exact he)
            subst he
            cases hws : q2.ws with
            | nil =>
              have FN := Lib.hid (fun x : Kp wr => FIN.out x fun p l hp => by rw [hws] at hp; cases hp)
              have hw0 : nw = 0 := by rw [NW.out, hws]; rfl
              subst hw0
              clear FIN hws he0
              go_upto_region 8 with fail
              refine wp_region_kept (by kernel_rfl) (by kernel_rfl) ?_
              repeat (first
                | go_big_quiet_skip
                | (go_big_quiet_want; go_big_quiet_op; first | go_big_quiet_on))
              refine wpQuiet_nil ?_
              rintro _ ⟨x, rfl⟩
              go_wp2
              go_ret
              exact FN.out x
            | cons p l =>
              have hw0 : nw = l.length + 1 := by rw [NW.out, hws]; rfl
              subst hw0
              obtain ⟨bw, ow, cw, hv, hcw, hmw, hbw, hrg, v', hv', hvo, hrt⟩ := wish_tail (show Rk wr (Ext F w wr) 68 2 wC (.slice wa q2.ws.length wc) (p :: l) from by have := M1.out.qm.ws; rw [hws] at this; rw [hws]; exact this)
              obtain ⟨rfl, rfl⟩ : wa = some ⟨bw, ow, none⟩ ∧ wc = cw := by
                have := hv
                simp at this
                exact ⟨this.1, this.2.2⟩
              have y3 := fun x : Kp wr => show x.1.cell? ⟨bw, ow, none⟩ = some (.int .i64 p.1) from hrg x.1 x.2 0 _ rfl
              have y4 := fun x : Kp wr => show x.1.cell? ⟨bw, ow + 1, none⟩ = some (.int .i64 (p.2 : Int)) from hrg x.1 x.2 1 _ rfl
              have pb := L1.out.bd.ws p (by rw [hws]; exact List.mem_cons_self)
              have C1 := Lib.hid (fun x : Kp wr => free_any (M1.out.qm.kept x.2) (M1.out.tab.below x.2) L1.out.bd (by have := L1.out.few.1; have := HN.out; omega) p.1 p.2 pb.2)
              have lw : l.length ≤ 100000 := by have t := L1.out.few.1; have := HN.out; rw [hws, List.length_cons] at t; omega
              have nz : ((l.length : Int) + 1 == 0) = false := beq_eq_false_iff_ne.2 (by omega)
              have ng : (0 : Int) < (l.length : Int) + 1 := by omega
              have ngd : decide ((0 : Int) < (l.length : Int) + 1) = true := decide_eq_true ng
              cases hf : q2.free cpN p.1 p.2 with
              | false =>
                rw [hf] at C1
                have FN := Lib.hid (fun x : Kp wr => FIN.out x fun p2 l2 hp => by
                  rw [hws] at hp
                  injection hp with e1 e2
                  subst e1
                  intro hc
                  rw [hf] at hc
                  cases hc.2)
                clear FIN hws he0 hv hcw hmw hbw hrg hv' hvo hrt pb hf
                go_upto_region 8 with fail
                refine wp_region_kept (by kernel_rfl) (by kernel_rfl) ?_
                repeat (first
                  | go_big_quiet_skip
                  | (go_big_quiet_want; go_big_quiet_op; first | go_big_quiet_on | go_big_quiet_call (exact kp_call (C1.out _))))
                refine wpQuiet_nil ?_
                rintro _ ⟨x, rfl⟩
                go_wp2
                go_ret
                exact FN.out x
              | true =>
                rw [hf] at C1
                have EQ2 := Lib.hid (show q.give cpN = (((q2.headW p l).give2 cpN (q2.headW p l).ws.length).1, (d2 ++ [p.1]) ++ ((q2.headW p l).give2 cpN (q2.headW p l).ws.length).2) from by
                  rw [E1.out, give2_step hws ⟨he0, hf⟩]
                  simp)
                have LG2 := Lib.hid (show LG N (q2.headW p l) (d2 ++ [p.1]) from ⟨L1.out.ok.headW SY.out hws hf, L1.out.bd.headW hws, L1.out.few.headW hws, by
                  have := L1.out.len
                  rw [hws] at this
                  show (d2 ++ [p.1]).length + q2.eg.length + l.length ≤ _
                  simp at this ⊢
                  omega⟩)
                have RT := Lib.hid hrt
                have RG := Lib.hid hrg
                have VO := Lib.hid hvo
                have HV := Lib.hid hv'
                have HW := Lib.hid hws
                have BW := Lib.hid hbw
                clear FIN hws he0 hv hrg hv' hvo hrt hbw pb hf
                go_upto_region 8 with fail
                refine wp_region_kept (by kernel_rfl) (by kernel_rfl) ?_
                repeat (first
                  | go_big_quiet_skip
                  | (go_big_quiet_want; go_big_quiet_op; first | go_big_quiet_on | go_big_quiet_call (exact kp_call (C1.out _))))
                refine wpQuiet_nil ?_
                rintro _ ⟨x, rfl⟩
                have M2 := Lib.hid (M1.out.below x.2)
                have RT2 := Lib.hid ((RT.out.kept x.2).mono fun i hi => ext_more x.2.size hi)
                have RG2 := Lib.hid (RG.out x.1 x.2)
                have BW2 := Lib.hid (Nat.lt_of_lt_of_le BW.out x.2.size)
                clear yk y1 y2 y3 y4 C1 M1 RT RG BW E1
                generalize x.1 = w3 at M2 RT2 RG2 BW2 ⊢
                clear x
                have zk : w3.cell? ⟨K, 0, none⟩ = some (.pointer (some ⟨g, 0, none⟩)) := M2.out.kc.cell 0
                have zg : w3.cell? ⟨g, 2, none⟩ = some (.slice (some ⟨bw, ow, none⟩) (l.length + 1) wc) := by
                  have := M2.out.qm.bk.cell 2
                  rw [HW.out] at this
                  exact this
                have wc63 : wc ≤ 9223372036854775807 := by unfold maxLen at hmw; omega
                have c1 : 1 ≤ wc := by omega
                clear hcw hmw
                as_aux_lemma =>
                  go_upto_region 10 with (first | (refine load_wish rfl _ rfl bw ow p rfl RG2.out ?_))
                  obtain ⟨V, hV⟩ : ∃ V, V = w3.heap.size := ⟨_, rfl⟩
                  have VW := Lib.hid (show Bk (w3.alloc (.cells #[.int .i64 p.1, .int .i64 (p.2 : Int)] 68)) V 68 #[.int .i64 p.1, .int .i64 (p.2 : Int)] from by rw [hV]; exact Bk.new w3 _ _)
                  have BV := Lib.hid (show bw ≠ V by have := BW2.out; omega)
                  have ba := (Below.refl w3.heap.size w3).alloc (Nat.le_refl _) (.cells #[.int .i64 p.1, .int .i64 (p.2 : Int)] 68)
                  have M4 := Lib.hid ((M2.out.below ba).below (w' := (w3.alloc (.cells #[.int .i64 p.1, .int .i64 (p.2 : Int)] 68)).drew) ⟨rfl, rfl, rfl, Nat.le_refl _, fun _ _ => rfl⟩)
                  have RT4 := Lib.hid (show Rk (w3.alloc (.cells #[.int .i64 p.1, .int .i64 (p.2 : Int)] 68)).drew (Ext F w (w3.alloc (.cells #[.int .i64 p.1, .int .i64 (p.2 : Int)] 68)).drew) 68 2 wC v' l from ((RT2.out.kept ba).mono fun i hi => ext_more ba.size hi).same fun _ _ _ => rfl)
                  rw [← hV]
                  clear hV ba M2 RT2 RG2 BW2 zk zg
                  generalize w3.alloc (.cells #[.int .i64 p.1, .int .i64 (p.2 : Int)] 68) = w4 at *
                  have zk : w4.cell? ⟨K, 0, none⟩ = some (.pointer (some ⟨g, 0, none⟩)) := M4.out.kc.cell 0
                  have zg : w4.cell? ⟨g, 2, none⟩ = some (.slice (some ⟨bw, ow, none⟩) (l.length + 1) wc) := by
                    have := M4.out.qm.bk.cell 2
                    rw [HW.out] at this
                    exact this
                  have fg := M4.out.qm.bk.fz 2
                  have fg2 : w4.frozen? ⟨g, 2, none⟩ = false := fg
                  have M5 := Lib.hid (show GM w F g K (w4.setCell ⟨g, 2, none⟩ v').drew u3 vh _ v' ⟨q2.hs, q2.eg, l⟩ d2 from M4.out.wishes RT4.out)
                  have VW5 := Lib.hid (show Bk (w4.setCell ⟨g, 2, none⟩ v').drew V 68 #[.int .i64 p.1, .int .i64 (p.2 : Int)] from VW.out.drew.far (p := ⟨g, 2, none⟩) (Bk.ne_ VW.out.drew M4.out.qm.bk (by decide)) _)
                  clear fg M4 RT4 VW
                  by_cases hc1 : wc = 1
                  · subst hc1
                    have v1 : v' = .slice (some ⟨bw, ow, none⟩) l.length 0 := by rw [HV.out]; rfl
                    go_region
                    have V1 := Lib.hid v1
                    clear v1
                    rw [← V1.out]
                    generalize (w4.setCell ⟨g, 2, none⟩ v').drew = w5 at *
                    clear zk zg fg2
                    have AD := Lib.hid (add_any M5.out.qm.mn L1.out.ok.so (by have := L1.out.few.1; have := HN.out; show q2.hs.length ≤ _; omega) p.1 p.2)
                    have xk : w5.cell? ⟨K, 0, none⟩ = some (.pointer (some ⟨g, 0, none⟩)) := M5.out.kc.cell 0
                    have xv0 : w5.cell? ⟨V, 0, none⟩ = some (.int .i64 p.1) := VW5.out.cell 0
                    have xv1 : w5.cell? ⟨V, 1, none⟩ = some (.int .i64 (p.2 : Int)) := VW5.out.cell 1
                    as_aux_lemma =>
                      go_wp2_with fail
                      refine AD.out.mono ?_
                      rintro e w6 ⟨rfl, kp6, vh6, qm6⟩
                      have M6 := Lib.hid (M5.out.added kp6 qm6)
                      have VW6 := Lib.hid (kp6.bk VW5.out fun e => by
                        rcases e with e | e | e | e
                        · exact Bk.ne_ VW5.out M5.out.qm.bk (by decide) e
                        · obtain ⟨cs, hb⟩ := own_bk M5.out.qm.hs V e; exact Bk.ne_ VW5.out hb (by decide) rfl
                        · obtain ⟨cs, hb⟩ := own_bk M5.out.qm.eg V e; exact Bk.ne_ VW5.out hb (by decide) rfl
                        · exact BV.out (by rw [VO.out] at e; exact Option.some.inj e))
                      clear kp6 qm6 AD xk xv0 xv1 M5 VW5
                      have yv0 : w6.cell? ⟨V, 0, none⟩ = some (.int .i64 p.1) := VW6.out.cell 0
                      have M7 := Lib.hid (M6.out.below ((Below.refl w6.heap.size w6).alloc (Nat.le_refl _) (.cells #[.int .i64 p.1] 3)))
                      obtain ⟨vb, hvb⟩ : ∃ vb, vb = w6.heap.size := ⟨_, rfl⟩
                      have VB := Lib.hid hvb
                      have N7 := Lib.hid (show ∀ j u, (eC p.1)[j]? = some u → (w6.alloc (.cells #[.int .i64 p.1] 3)).cell? ((⟨vb, 0, none⟩ : Addr).add j) = some u from fun j u hu => by
                        rw [Addr.add_mid, Nat.zero_add, hvb, (Bk.new w6 _ _).cell]
                        simpa using hu)
                      have LD := Lib.hid (show d2.length ≤ 200000 by have := L1.out.len; have := HN.out; omega)
                      clear hvb M6 VW6
                      go_wp2_with (first | (rw [← VB.out]; refine wpList_append_rk rfl _ _ 56 rfl I _ 8 Tryd.underlying56 HI.out HZ.out HSZ.out HBY.out rfl eC_len (by decide) eC_one _ d2 rfl M7.out.row p.1 ⟨vb, 0, none⟩ 1 rfl N7.out (by have := LD.out; omega) (by have := LD.out; omega) ?_; intro v8 w8 hr8 hg8; have M8 := Lib.hid (M7.out.given hg8 hr8); clear hr8 hg8 M7 N7 yv0))
                      go_roundg (q2.headW p l).ws.length
                      case measure => have := HG.out; rw [HW.out] at this; exact Nat.lt_of_lt_of_le (Nat.lt_succ_self _) this
                      case rel => exact ⟨q2.headW p l, vh6, _, v', d2 ++ [p.1], Nat.le_refl _, Lib.hid ⟨M8.out, LG2.out, EQ2.out⟩⟩
                  · have v1 : v' = .slice (some ⟨bw, ow + 2, none⟩) l.length (wc - 1) := by rw [HV.out, if_neg hc1]
                    have V1 := Lib.hid v1
                    clear v1
                    go_region
                    rw [← V1.out]
                    generalize (w4.setCell ⟨g, 2, none⟩ v').drew = w5 at *
                    clear zk zg fg2
                    have AD := Lib.hid (add_any M5.out.qm.mn L1.out.ok.so (by have := L1.out.few.1; have := HN.out; show q2.hs.length ≤ _; omega) p.1 p.2)
                    have xk : w5.cell? ⟨K, 0, none⟩ = some (.pointer (some ⟨g, 0, none⟩)) := M5.out.kc.cell 0
                    have xv0 : w5.cell? ⟨V, 0, none⟩ = some (.int .i64 p.1) := VW5.out.cell 0
                    have xv1 : w5.cell? ⟨V, 1, none⟩ = some (.int .i64 (p.2 : Int)) := VW5.out.cell 1
                    as_aux_lemma =>
                      go_wp2_with fail
                      refine AD.out.mono ?_
                      rintro e w6 ⟨rfl, kp6, vh6, qm6⟩
                      have M6 := Lib.hid (M5.out.added kp6 qm6)
                      have VW6 := Lib.hid (kp6.bk VW5.out fun e => by
                        rcases e with e | e | e | e
                        · exact Bk.ne_ VW5.out M5.out.qm.bk (by decide) e
                        · obtain ⟨cs, hb⟩ := own_bk M5.out.qm.hs V e; exact Bk.ne_ VW5.out hb (by decide) rfl
                        · obtain ⟨cs, hb⟩ := own_bk M5.out.qm.eg V e; exact Bk.ne_ VW5.out hb (by decide) rfl
                        · exact BV.out (by rw [VO.out] at e; exact Option.some.inj e))
                      clear kp6 qm6 AD xk xv0 xv1 M5 VW5
                      have yv0 : w6.cell? ⟨V, 0, none⟩ = some (.int .i64 p.1) := VW6.out.cell 0
                      have M7 := Lib.hid (M6.out.below ((Below.refl w6.heap.size w6).alloc (Nat.le_refl _) (.cells #[.int .i64 p.1] 3)))
                      obtain ⟨vb, hvb⟩ : ∃ vb, vb = w6.heap.size := ⟨_, rfl⟩
                      have VB := Lib.hid hvb
                      have N7 := Lib.hid (show ∀ j u, (eC p.1)[j]? = some u → (w6.alloc (.cells #[.int .i64 p.1] 3)).cell? ((⟨vb, 0, none⟩ : Addr).add j) = some u from fun j u hu => by
                        rw [Addr.add_mid, Nat.zero_add, hvb, (Bk.new w6 _ _).cell]
                        simpa using hu)
                      have LD := Lib.hid (show d2.length ≤ 200000 by have := L1.out.len; have := HN.out; omega)
                      clear hvb M6 VW6
                      go_wp2_with (first | (rw [← VB.out]; refine wpList_append_rk rfl _ _ 56 rfl I _ 8 Tryd.underlying56 HI.out HZ.out HSZ.out HBY.out rfl eC_len (by decide) eC_one _ d2 rfl M7.out.row p.1 ⟨vb, 0, none⟩ 1 rfl N7.out (by have := LD.out; omega) (by have := LD.out; omega) ?_; intro v8 w8 hr8 hg8; have M8 := Lib.hid (M7.out.given hg8 hr8); clear hr8 hg8 M7 N7 yv0))
                      go_roundg (q2.headW p l).ws.length
                      case measure => have := HG.out; rw [HW.out] at this; exact Nat.lt_of_lt_of_le (Nat.lt_succ_self _) this
                      case rel => exact ⟨q2.headW p l, vh6, _, v', d2 ++ [p.1], Nat.le_refl _, Lib.hid ⟨M8.out, LG2.out, EQ2.out⟩⟩
          · have FN := Lib.hid (fun x : Kp wr => FIN.out x fun p l _ hc => he (by rw [NE.out, hc.1]; rfl))
            have nz : ((ne : Int) == 0) = false := beq_eq_false_iff_ne.2 (by omega)
            have nz2 : ¬ ((ne : Int) = 0) := by omega
            clear FIN
            go_upto_region 8 with fail
            refine wp_region_kept (by kernel_rfl) (by kernel_rfl) ?_
            repeat (first
              | go_big_quiet_skip
              | (go_big_quiet_want; go_big_quiet_op; first | go_big_quiet_on))
            refine wpQuiet_nil ?_
            rintro _ ⟨x, rfl⟩
            go_wp2
            go_ret
            exact FN.out x
    · rw [hx] at IX
      obtain ⟨h0, h0m, h0x, h0w, h0g, h0e⟩ := eager_hold hI.out.2.1.ok (List.getElem_mem hil)
      obtain ⟨p, hpl, hpx, hlp⟩ := find_some h0g
      have GX := Lib.hid (grantX_at hI.out.2.1.ok hil hpl (by rw [hlp]; exact h0x))
      have RS := Lib.hid hrs
      have L1 := Lib.hid hI.out.2.1
      have E1 := Lib.hid hI.out.2.2
      obtain ⟨xx, hxx⟩ : ∃ xx, xx = qj.eg[i] := ⟨_, rfl⟩
      have HXX := Lib.hid hxx
      have IL := Lib.hid hil
      have PL := Lib.hid hpl
      have LP := Lib.hid hlp
      have i0 : ¬ ((i : Int) < 0) := by omega
      have p0 : ¬ ((p : Int) < 0) := by omega
      have i63 : i ≤ 100000 := by have := hI.out.2.1.few.2; have := HN.out; omega
      have p63 : p ≤ 100000 := by have := hI.out.2.1.few.1; have := HN.out; omega
      have FX := Lib.hid hpx
      have M1 := Lib.hid hI.out.1
      have HG := Lib.hid hgg
      have H0X := Lib.hid (show h0.x = xx by rw [hxx]; exact h0x)
      have RX := Lib.hid (show qj.ripe cpN = some xx by rw [hxx]; exact hrs)
      have GX2 := Lib.hid (show qj.grantX xx = ⟨qj.hs.set p ⟨xx, h0.w, 0⟩, qj.eg.eraseIdx i, qj.ws⟩ by rw [hxx, ← hlp]; exact GX.out)
      have LEN := Lib.hid (show (qj.grantX xx).eg.length + 1 = qj.eg.length from by
        have := List.length_pos_of_mem (ripe_some RX.out).1
        show (qj.eg.erase xx).length + 1 = _
        rw [List.length_erase_of_mem (ripe_some RX.out).1]
        omega)
      have LGX := Lib.hid (show LG N (qj.grantX xx) (done ++ [xx]) from ⟨L1.out.ok.grantX SY.out RX.out, L1.out.bd.grantX xx, L1.out.few.grantX xx, by
        have := L1.out.len
        have h2 := LEN.out
        have h3 : (qj.grantX xx).ws = qj.ws := rfl
        rw [h3, List.length_append, List.length_singleton]
        omega⟩)
      have EQX := Lib.hid (show q.give1 cpN q.eg.length = (((qj.grantX xx).give1 cpN (qj.grantX xx).eg.length).1, (done ++ [xx]) ++ ((qj.grantX xx).give1 cpN (qj.grantX xx).eg.length).2) from by
        rw [E1.out, give1_step RX.out]
        simp)
      clear hI hgg hx hrs h0m h0x h0w h0g h0e hpx hlp hxx GX
      as_aux_lemma =>
        go_wp2_with fail
        refine IX.out.mono ?_
        rintro e w2 ⟨rfl, hb2⟩
        have M2 := Lib.hid (M1.out.below hb2)
        clear hb2 IX y1 yk
        rcases M2.out.qm.hs with ⟨hv, hnil⟩ | ⟨b, off, cap, cur, hv, hFb, hA⟩
        · exact absurd PL.out (by rw [hnil]; exact Nat.not_lt_zero _)
        rcases M2.out.qm.eg with ⟨hve, hnil⟩ | ⟨be, oe, cape, cure, hve, hFe, hAe⟩
        · exact absurd IL.out (by rw [hnil]; exact Nat.not_lt_zero _)
        obtain ⟨rfl, rfl⟩ : ea = some ⟨be, oe, none⟩ ∧ ec = cape := by simpa using hve
        subst hv
        have y0 := fun x : Kp w2 => show x.1.cell? ⟨K, 0, none⟩ = some (.pointer (some ⟨g, 0, none⟩)) from x.cell (M2.out.kc.cell 0)
        have y1 := fun x : Kp w2 => show x.1.cell? ⟨g, 0, none⟩ = some (.slice (some ⟨b, off, none⟩) qj.hs.length cap) from x.cell (M2.out.qm.bk.cell 0)
        have y2 := fun x : Kp w2 => show x.1.cell? ⟨g, 1, none⟩ = some (.slice (some ⟨be, oe, none⟩) qj.eg.length ec) from x.cell (M2.out.qm.bk.cell 1)
        have y3 := fun x : Kp w2 => show x.1.cell? ⟨be, oe + i, none⟩ = some (.int .i64 xx) from x.cell (by
          have t := hAe.cell (j := i) IL.out (i := 0) (u := .int .i64 xx) (by rw [HXX.out]; rfl)
          simpa using t)
        have C1 := Lib.hid (fun x : Kp w2 => show Calls Tryd.prog 32 #[.pointer (some ⟨g, 0, none⟩), .int .i64 xx] x.1 fun e w' => e = .returned (.int .i64 (p : Int)) ∧ Below x.1.heap.size x.1 w' from by
          have := find_any (M2.out.qm.kept x.2) (by have := L1.out.few.1; have := HN.out; omega) xx
          rw [HXX.out, FX.out] at this
          rw [HXX.out]
          exact this)
        have HFB := Lib.hid hFb
        have HA2 := Lib.hid hA
        have pl := PL.out
        have il := IL.out
        clear hve hFb hA hFe hAe
        go_upto_region 4 with fail
        refine wp_region_kept (by kernel_rfl) (by kernel_rfl) ?_
        repeat (first
          | go_big_quiet_skip
          | (go_big_quiet_want; go_big_quiet_op; first | go_big_quiet_on | go_big_quiet_call (exact kp_call (C1.out _))))
        refine wpQuiet_nil ?_
        rintro _ ⟨x, rfl⟩
        have M3 := Lib.hid (M2.out.below x.2)
        have HA3 := Lib.hid (HA2.out.kept x.2)
        have HF3 := Lib.hid (ext_more x.2.size HFB.out)
        clear y0 y1 y2 y3 C1 M2 HA2 HFB
        generalize x.1 = w3 at M3 HA3 HF3 ⊢
        clear x
        have pl2 := PL.out
        have z1 : w3.cell? ⟨b, off + p * 3 + 1, none⟩ = some (.int .i64 (h0.m : Int)) := HA3.out.cell pl2 (by rw [LP.out]; rfl)
        have z2 : w3.cell? ⟨b, off + p * 3 + 2, none⟩ = some (.int .i64 (h0.w : Int)) := HA3.out.cell pl2 (by rw [LP.out]; rfl)
        have fz1 := HA3.out.bk.fz (off + p * 3 + 1)
        have fz2 := HA3.out.bk.fz (off + p * 3 + 2)
        obtain ⟨m4, cur4, hA4⟩ := M3.out.hold HF3.out HA3.out rfl pl2 xx h0.m h0.w (by rw [LP.out, ← H0X.out])
        have M4 := Lib.hid m4
        have HA4 := Lib.hid hA4
        clear m4 hA4 pl2
        as_aux_lemma =>
          go_upto_region 6 with fail
          generalize (w3.setCell ⟨b, off + p * 3 + 1, none⟩ (.int .i64 (h0.w : Int))).setCell ⟨b, off + p * 3 + 2, none⟩ (.int .i64 0) = w4 at *
          clear z1 z2 fz1 fz2 HA3 M3 HF3
          have z3 : w4.cell? ⟨b, off + p * 3, none⟩ = some (.int .i64 xx) := by
            have := HA4.out.cell (j := p) (by rw [List.length_set]; exact PL.out) (i := 0) (u := .int .i64 xx) (by rw [List.getElem_set_self]; rfl)
            simpa using this
          have M5 := Lib.hid (M4.out.below ((Below.refl w4.heap.size w4).alloc (Nat.le_refl _) (.cells #[.int .i64 xx] 3)))
          obtain ⟨vb, hvb⟩ : ∃ vb, vb = w4.heap.size := ⟨_, rfl⟩
          have VB := Lib.hid hvb
          have N5 := Lib.hid (show ∀ j u, (eC xx)[j]? = some u → (w4.alloc (.cells #[.int .i64 xx] 3)).cell? ((⟨vb, 0, none⟩ : Addr).add j) = some u from fun j u hu => by
            rw [Addr.add_mid, Nat.zero_add, hvb, (Bk.new w4 _ _).cell]
            simpa using hu)
          have LD := Lib.hid (show done.length ≤ 200000 by have := L1.out.len; have := HN.out; omega)
          clear hvb HA4 M4
          go_wp2_with (first | (rw [← VB.out]; refine wpList_append_rk rfl _ _ 56 rfl I _ 8 Tryd.underlying56 HI.out HZ.out HSZ.out HBY.out rfl eC_len (by decide) eC_one _ done rfl M5.out.row xx ⟨vb, 0, none⟩ 1 rfl N5.out (by have := LD.out; omega) (by have := LD.out; omega) ?_; intro v6 w6 hr6 hg6; have M6 := Lib.hid (M5.out.given hg6 hr6); clear hr6 hg6 M5 N5 z3))
          obtain ⟨w7, hw7⟩ : ∃ w7, w7 = w6.drew := ⟨_, rfl⟩
          have M7 := Lib.hid (show GM w F g K w7 v6 _ _ vw _ (done ++ [xx]) from by rw [hw7]; exact M6.out.below ⟨rfl, rfl, rfl, Nat.le_refl _, fun _ _ => rfl⟩)
          have DL := Lib.hid (delete_any w7 (fun k => (Value.slice (some ⟨be, oe, none⟩) qj.eg.length ec).ownBlock = some k) _ qj.eg i IL.out (rk_own M7.out.qm.eg) (by have := L1.out.few.2; have := HN.out; omega))
          have yk : w7.cell? ⟨K, 0, none⟩ = some (.pointer (some ⟨g, 0, none⟩)) := M7.out.kc.cell 0
          have yg : w7.cell? ⟨g, 1, none⟩ = some (.slice (some ⟨be, oe, none⟩) qj.eg.length ec) := M7.out.qm.bk.cell 1
          have wi : IntKind.i64.wrap ((i : Int) + 1) = (i : Int) + 1 := by rw [IntKind.wrap_i64]; omega
          clear M6
          rw [hw7] at yk yg DL M7
          clear hw7
          go_region_law (go_simp; go_at_call 42; refine DL.out.mono ?_; rintro e w8 ⟨v8, rfl, hr8, hk8⟩; obtain ⟨xa8, n8, xc8, rfl⟩ : ∃ a n c, v8 = .slice a n c := (by obtain ⟨a, c, hx⟩ := hr8.slice; exact ⟨_, _, _, hx⟩); have M8 := Lib.hid (M7.out.eager hk8 hr8); have b8 := kp_apart M7.out.qm.eg hk8 M7.out.qm.bk (by decide); have c8 := kp_apart M7.out.qm.eg hk8 M7.out.kc (by decide); have d8 : w8.cell? ⟨K, 0, none⟩ = some (.pointer (some ⟨g, 0, none⟩)) := (by rw [World.cell?_of_block (w := w6.drew) c8]; exact M7.out.kc.cell 0); have e8 : w8.cell? ⟨g, 1, none⟩ = some (.slice (some ⟨be, oe, none⟩) qj.eg.length ec) := (by rw [World.cell?_of_block (w := w6.drew) b8]; exact M7.out.qm.bk.cell 1); have f8 : w8.frozen? ⟨g, 1, none⟩ = false := (by rw [World.frozen?_of_block (w := w6.drew) b8]; exact M7.out.qm.bk.fz 1); clear hr8 hk8 b8 c8)
          all_goals
            go_wp2
            go_roundg (qj.grantX xx).eg.length
            case measure => have := LEN.out; have := HG.out; omega
            case rel => exact ⟨qj.grantX xx, .slice (some ⟨b, off, none⟩) qj.hs.length cap, .slice xa8 n8 xc8, vw, done ++ [xx], Nat.le_refl _, Lib.hid ⟨by rw [GX2.out]; exact M8.out, LGX.out, EQX.out⟩⟩
end Go.Proofs.YtnpnpkaklamboaaDoor
