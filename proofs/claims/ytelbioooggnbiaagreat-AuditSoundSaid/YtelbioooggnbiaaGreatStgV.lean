/- A stage over a shelf by what it holds: und: the pages below, pg: the pages as the stage has them. -/
import Derived.Test.YtelbioooggnbiaaGreatStgLand
set_option linter.unusedVariables false
set_option linter.unusedSimpArgs false
namespace Go.Proofs.YtelbioooggnbiaaGreat
open Go.RowKit Go.Maps

theorem pgB_cs {p q : Pg} (h : pgB p q = true) : p.cs = q.cs := Pg.cs_eq ((pgB_iff p q).1 h)
theorem pgB_symm {p q : Pg} (h : pgB p q = true) : pgB q p = true := by
  rw [pgB_iff] at h ⊢
  exact ⟨h.1.symm, h.2.1.symm, h.2.2.1.symm, h.2.2.2.1.symm, fun i hi => (h.2.2.2.2 i hi).symm⟩
theorem pgB_trans {p q r : Pg} (h : pgB p q = true) (h2 : pgB q r = true) : pgB p r = true := by
  rw [pgB_iff] at h h2 ⊢
  exact ⟨h.1.trans h2.1, h.2.1.trans h2.2.1, h.2.2.1.trans h2.2.2.1, h.2.2.2.1.trans h2.2.2.2.1, fun i hi => (h.2.2.2.2 i hi).trans (h2.2.2.2.2 i hi)⟩
def upd (pg : Nat → Pg) (id : Nat) (p : Pg) : Nat → Pg := fun i => if i = id then p else pg i
structure SV (w : World) (B g b gs r N M : Nat) (und pg : Nat → Pg) : Prop where
  ex : ∃ (m : Nat) (ps : List Pg) (l : List Im), SS w B g b m gs r ps l ∧ m ≤ M ∧ ps.length = N ∧ (∀ i ∈ l, i.id < N) ∧ (∀ id, id < N → pgB (ps.getD id Pg.zero) (und id) = true) ∧ (∀ id : Nat, id < N → pgB (ssGet ps l id).1 (pg id) = true)
section
variable {w w' : World} {B g b gs r N M : Nat} {und pg : Nat → Pg}
theorem SV.kept (h : SV w B g b gs r N M und pg) (hb : Below w.heap.size w w') : SV w' B g b gs r N M und pg := by
  obtain ⟨m, ps, l, h1, r⟩ := h.ex
  exact ⟨m, ps, l, h1.kept hb, r⟩
theorem SV.alloc (h : SV w B g b gs r N M und pg) (o : Obj) : SV (w.alloc o) B g b gs r N M und pg := h.kept ((Below.refl _ _).alloc (Nat.le_refl _) o)
theorem SV.drewN (h : SV w B g b gs r N M und pg) (n : Nat) : SV (w.drewN n) B g b gs r N M und pg := h.kept ⟨rfl, rfl, rfl, Nat.le_refl _, fun _ _ => rfl⟩
theorem SV.mono (h : SV w B g b gs r N M und pg) {M2 : Nat} (hm : M ≤ M2) : SV w B g b gs r N M2 und pg := by
  obtain ⟨m, ps, l, h1, h2, r⟩ := h.ex
  exact ⟨m, ps, l, h1, Nat.le_trans h2 hm, r⟩
theorem SV.grown (h : SV w B g b gs r N M und pg) {row : Option Nat} (hg : w.grownBy w' row) (hr : ∀ k, row = some k → k ≠ g ∧ k ≠ b ∧ k ≠ gs ∧ k ≠ r) : SV w' B g b gs r N M und pg := by
  obtain ⟨m, ps, l, h1, r⟩ := h.ex
  exact ⟨m, ps, l, h1.grown hg hr, r⟩
theorem SV.row_ne (h : SV w B g b gs r N M und pg) {k : Nat} {t : TypeId} {cs : Array Value} (hk : Bk w k t cs) (h1 : t ≠ 62) (h2 : t ≠ 70) (h3 : k ≠ r) : k ≠ g ∧ k ≠ b ∧ k ≠ gs ∧ k ≠ r := by
  obtain ⟨m, ps, l, h0, _⟩ := h.ex
  exact h0.row_ne hk h1 h2 h3
theorem SV.bb (h : SV w B g b gs r N M und pg) : B ≤ b := by obtain ⟨m, ps, l, h0, _⟩ := h.ex; exact h0.sg.bb
theorem SV.br (h : SV w B g b gs r N M und pg) : B ≤ r := by obtain ⟨m, ps, l, h0, _⟩ := h.ex; exact h0.sh.br
theorem SV.most (h : SV w B g b gs r N M und pg) : 1 ≤ N ∧ N ≤ 1024 := by obtain ⟨m, ps, l, h0, _, hn, _⟩ := h.ex; rw [← hn]; exact ⟨h0.sh.one, h0.sh.most⟩
theorem SV.map_ne (h : SV w B g b gs r N M und pg) {k : Nat} {t : TypeId} {cs : Array Value} (hk : Bk w k t cs) : b ≠ k := by obtain ⟨m, ps, l, h0, _⟩ := h.ex; exact h0.sg.mp.ne_bk hk
theorem SV.gs_ne (h : SV w B g b gs r N M und pg) : g < w.heap.size ∧ b < w.heap.size ∧ gs < w.heap.size ∧ r < w.heap.size := by
  obtain ⟨m, ps, l, h0, _⟩ := h.ex
  exact ⟨h0.sg.box.lt, h0.sg.mp.lt, h0.sh.box.lt, Bk.lt h0.sh.row⟩
theorem sv_get (h : SV w B g b gs r N M und pg) (id : Nat) (hid : id < N) : Calls Tryz.prog 13 #[.pointer (some ⟨g, 0, none⟩), .int .i64 id] w (PgPost (pg id, 0) w) := by
  have hN := h.most
  obtain ⟨m, ps, l, h1, h2, h3, h4, h5, h6⟩ := h.ex
  have hc := ss_get h1 id (by omega) (by omega)
  have he : (ssGet ps l id).2 = 0 := by
    unfold ssGet stGet getPg
    split
    · rfl
    · rw [if_pos ⟨by omega, by omega⟩]
  refine hc.mono ?_
  rintro e w' ⟨rfl, hb⟩
  exact ⟨by rw [he, pgB_cs (h6 id hid)], hb⟩
theorem sv_set (h : SV w B g b gs r N M und pg) (id : Nat) (hid : id < N) (p : Pg) (hp : p.ok) (hM : M < maxLen) :
    Calls Tryz.prog 16 #[.pointer (some ⟨g, 0, none⟩), .int .i64 id, .agg p.cs] w fun e w' => e = .returned (.int .i64 0) ∧ SV w' B g b gs r N (M + 1) und (upd pg id p) ∧ w.grownBy w' (some b) := by
  have hN := h.most
  obtain ⟨m, ps, l, h1, h2, h3, h4, h5, h6⟩ := h.ex
  have hs : sok id p := ⟨by omega, by omega, hp⟩
  refine (ss_set h1 id p (by omega)).mono ?_
  rintro e w' ⟨rfl, hS, hg⟩
  rw [show setE id p = 0 from if_pos hs]
  rw [show setL l id p = ins id p l from if_pos hs] at hS
  refine ⟨rfl, ⟨m + 1, ps, _, hS, by omega, h3, fun i hi => ?_, h5, fun j hj => ?_⟩, hg⟩
  · rcases ins_mem hi with rfl | hi
    · show (id : Int) < N; omega
    · exact h4 i hi
  · unfold ssGet stGet
    rw [look_ins]
    unfold setPg upd
    by_cases e : j = id
    · subst e; rw [if_pos rfl, if_pos rfl]; exact pgB_self p
    · rw [if_neg (by omega), if_neg e]; exact h6 j hj
theorem sv_drop (h : SV w B g b gs r N M und pg) :
    Calls Tryz.prog 30 #[.pointer (some ⟨g, 0, none⟩)] w fun e w' => e = .returned (.tuple #[]) ∧ SV w' B g b gs r N 0 und und ∧ w.grownBy w' (some b) := by
  obtain ⟨m, ps, l, h1, h2, h3, h4, h5, h6⟩ := h.ex
  refine (ss_drop h1).mono ?_
  rintro e w' ⟨rfl, hS, hg⟩
  refine ⟨rfl, ⟨0, ps, [], hS, Nat.le_refl _, h3, (fun i hi => by cases hi), h5, fun j hj => ?_⟩, hg⟩
  have : (ssGet ps [] j).1 = ps.getD j Pg.zero := by
    show (getPg ps j).1 = _
    unfold getPg
    rw [if_pos ⟨by omega, by omega⟩, Int.toNat_natCast]
  rw [this]
  exact h5 j hj
/-- Images of a stage that may land, and their landing. -/
def LandPost (w : World) (B g b gs r N M : Nat) (und pg : Nat → Pg) (v : Value) (w' : World) : Prop := ∃ m ps l, SS w' B g b m gs r ps l ∧ m ≤ M ∧ ps.length = N ∧ (∀ i ∈ l, i.id < N) ∧ (∀ id, id < N → pgB (ps.getD id Pg.zero) (und id) = true) ∧ (∀ id : Nat, id < N → pgB (ssGet ps l id).1 (pg id) = true) ∧ IOwn w' w.heap.size v (outL (getPg ps) l) ∧ Below w.heap.size w w'
theorem sv_images (h : SV w B g b gs r N M und pg) :
    Calls Tryz.prog 7 #[.pointer (some ⟨g, 0, none⟩)] w fun e w' => ∃ v, e = .returned (.tuple #[v, .int .i64 0]) ∧ LandPost w B g b gs r N M und pg v w' := by
  obtain ⟨m, ps, l, h1, h2, h3, h4, h5, h6⟩ := h.ex
  refine (ss_images h1).mono ?_
  have h0 : errL (getPg ps) l = 0 := errL_in fun i hi => ⟨(h1.ids i hi).1.1, by rw [h3]; exact h4 i hi⟩
  rintro e w' (⟨hne, -, -⟩ | ⟨-, v, rfl, hv, hb⟩)
  · exact absurd h0 hne
  · exact ⟨v, rfl, m, ps, l, h1.kept hb, h2, h3, h4, h5, h6, hv, hb⟩
theorem sv_apply {v : Value} {w0 : World} (h : LandPost w0 B g b gs r N M und pg v w) :
    Calls Tryz.prog 8 #[.pointer (some ⟨gs, 0, none⟩), v] w fun e w' => e = .returned (.int .i64 0) ∧ SV w' B g b gs r N M pg pg ∧ w.grownBy w' (some r) := by
  obtain ⟨m, ps, l, h1, h2, h3, h4, h5, h6, hv, hb⟩ := h
  have hin : ∀ i ∈ l, (0 ≤ i.id ∧ i.id < ps.length) ∧ i.p.ok := fun i hi => ⟨⟨(h1.ids i hi).1.1, by rw [h3]; exact h4 i hi⟩, (h1.ids i hi).2⟩
  have hf := fit_out hin
  refine (ss_apply h1 hv).mono ?_
  rintro e w' ⟨rfl, hS, hg⟩
  rw [show appE ps (outL (getPg ps) l) = 0 from if_pos hf]
  rw [show appL ps (outL (getPg ps) l) = putAll ps (outL (getPg ps) l) from if_pos hf] at hS
  have hl : (putAll ps (outL (getPg ps) l)).length = ps.length := putAll_len _ _
  have key : ∀ id : Nat, id < N → ∃ p, (putAll ps (outL (getPg ps) l))[id]? = some p ∧ pgB p (pg id) = true ∧ ∀ q, look l id = some q → pgB p q = true := fun id hid => by
    obtain ⟨p, h7, h8, h9⟩ := lands h1.up (fun i hi => (hin i hi).1) (k := id) (by omega)
    exact ⟨p, h7, pgB_trans h8 (h6 id hid), h9⟩
  refine ⟨rfl, ⟨m, _, l, hS, h2, by rw [hl]; exact h3, h4, fun id hid => ?_, fun id hid => ?_⟩, hg⟩
  · obtain ⟨p, h7, h8, _⟩ := key id hid
    rw [List.getD_eq_getElem?_getD, h7]
    exact h8
  · obtain ⟨p, h7, h8, h9⟩ := key id hid
    unfold ssGet stGet
    cases hq : look l id with
    | some q => exact pgB_trans (pgB_symm (h9 q hq)) h8
    | none =>
      rw [getPg_in (by omega), List.getD_eq_getElem?_getD, h7]
      exact h8
theorem sv_made {ps : List Pg} {m : Nat} (h : SS w B g b m gs r ps []) (hp : ∀ id, id < ps.length → pgB (ps.getD id Pg.zero) (und id) = true) : SV w B g b gs r ps.length m und und :=
  ⟨m, ps, [], h, Nat.le_refl _, rfl, (fun i hi => by cases hi), hp, fun j hj => by
    have : (ssGet ps [] j).1 = ps.getD j Pg.zero := by
      show (getPg ps j).1 = _
      rw [getPg_in hj]
    rw [this]
    exact hp j hj⟩
end
end Go.Proofs.YtelbioooggnbiaaGreat
