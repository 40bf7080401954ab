/- A stage over a shelf, together: what each call gives and leaves. -/
import Derived.Test.YtelbioooggnbiaaGreatStgIms
import Derived.Test.YtelbioooggnbiaaGreatStgAppN
set_option linter.unusedVariables false
set_option linter.unusedSimpArgs false
namespace Go.Proofs.YtelbioooggnbiaaGreat
open Go.RowKit Go.Maps

structure SS (w : World) (B g b m gs r : Nat) (ps : List Pg) (l : List Im) : Prop where
  sh : Sh w B gs r ps
  sg : Sg w B g b m (.iface 24 (.pointer (some ⟨gs, 0, none⟩))) (look l)
  up : Rising l
  ids : ∀ i ∈ l, (0 ≤ i.id ∧ i.id < 1024) ∧ i.p.ok
section
variable {w w' : World} {B g b m gs r : Nat} {ps : List Pg} {l : List Im}
theorem SS.kept (h : SS w B g b m gs r ps l) (hb : Below w.heap.size w w') : SS w' B g b m gs r ps l := ⟨h.sh.kept hb, h.sg.kept hb, h.up, h.ids⟩
theorem SS.alloc (h : SS w B g b m gs r ps l) (o : Obj) : SS (w.alloc o) B g b m gs r ps l := h.kept ((Below.refl _ _).alloc (Nat.le_refl _) o)
theorem SS.drew (h : SS w B g b m gs r ps l) : SS w.drew B g b m gs r ps l := h.kept (Below.refl _ _).drew
theorem Sh.grown (h : Sh w B gs r ps) {row : Option Nat} (hg : w.grownBy w' row) (h1 : some gs ≠ row) (h2 : some r ≠ row) : Sh w' B gs r ps := h.of_block (hg.block gs h.box.lt h1) (hg.block r (Bk.lt h.row) h2)
theorem Sg.grown {sv : Value} {f : Int → Option Pg} (h : Sg w B g b m sv f) {row : Option Nat} (hg : w.grownBy w' row) (h1 : some g ≠ row) (h2 : some b ≠ row) : Sg w' B g b m sv f := ⟨h.box.grown hg h1, h.mp.grown hg h2, h.bg, h.bb⟩
theorem Sg.mono {sv : Value} {f : Int → Option Pg} (h : Sg w B g b m sv f) {k : Nat} (hk : m ≤ k) : Sg w B g b k sv f := ⟨h.box, h.mp.mono hk, h.bg, h.bb⟩
/-- Blocks of other kinds turn. -/
theorem SS.grown (h : SS w B g b m gs r ps l) {row : Option Nat} (hg : w.grownBy w' row) (hr : ∀ k, row = some k → k ≠ g ∧ k ≠ b ∧ k ≠ gs ∧ k ≠ r) : SS w' B g b m gs r ps l :=
  ⟨h.sh.grown hg (fun e => (hr gs e.symm).2.2.1 rfl) (fun e => (hr r e.symm).2.2.2 rfl), h.sg.grown hg (fun e => (hr g e.symm).1 rfl) (fun e => (hr b e.symm).2.1 rfl), h.up, h.ids⟩
theorem SS.row_ne (h : SS w B g b m gs r ps l) {k : Nat} {t : TypeId} {cs : Array Value} (hk : Bk w k t cs) (h1 : t ≠ 62) (h2 : t ≠ 70) (h3 : k ≠ r) : k ≠ g ∧ k ≠ b ∧ k ≠ gs ∧ k ≠ r :=
  ⟨Bk.ne_ hk h.sg.box h1, fun e => h.sg.mp.ne_bk hk e.symm, Bk.ne_ hk h.sh.box h2, h3⟩
def ssGet (ps : List Pg) (l : List Im) (id : Int) : Pg × Int := stGet (look l) (getPg ps id) id
theorem getPg_norm (ps : List Pg) (id : Int) : (if (getPg ps id).2 = 0 then getPg ps id else (Pg.zero, (getPg ps id).2)) = getPg ps id := by
  unfold getPg
  split <;> rfl
theorem ss_source (h : SS w B g b m gs r ps l) (id : Int) : Calls Tryz.prog 21 #[.pointer (some ⟨g, 0, none⟩), .int .i64 id] w (PgPost (getPg ps id) w) := by
  have := source_shelf h.sg id (getPg ps id) (fun w' hb => shget_any (h.sh.kept hb) id)
  rw [getPg_norm] at this
  exact this
theorem ss_get (h : SS w B g b m gs r ps l) (id : Int) (h1 : -9223372036854775808 ≤ id) (h2 : id ≤ 9223372036854775807) : Calls Tryz.prog 13 #[.pointer (some ⟨g, 0, none⟩), .int .i64 id] w (PgPost (ssGet ps l id) w) :=
  stget_any h.sg id h1 h2 (getPg ps id) fun w' hb => ss_source (h.kept hb) id
theorem ss_images (h : SS w B g b m gs r ps l) : Calls Tryz.prog 7 #[.pointer (some ⟨g, 0, none⟩)] w (ImsPost w (getPg ps) l) :=
  images_any h.sg h.up (fun i hi => (h.ids i hi).1) (getPg ps) fun w' id _ _ hb => ss_source (h.kept hb) id
def sok (id : Int) (p : Pg) : Prop := 0 ≤ id ∧ id < 1024 ∧ p.ok
open Classical in
noncomputable def setL (l : List Im) (id : Int) (p : Pg) : List Im := if sok id p then ins id p l else l
open Classical in
noncomputable def setE (id : Int) (p : Pg) : Int := if sok id p then 0 else 1
open Classical in
theorem ss_set (h : SS w B g b m gs r ps l) (id : Int) (p : Pg) (hm : m < maxLen) :
    Calls Tryz.prog 16 #[.pointer (some ⟨g, 0, none⟩), .int .i64 id, .agg p.cs] w fun e w' => e = .returned (.int .i64 (setE id p)) ∧ SS w' B g b (m + 1) gs r ps (setL l id p) ∧ w.grownBy w' (some b) := by
  unfold setE setL
  by_cases hx : sok id p
  · rw [if_pos hx, if_pos hx]
    refine (stset_yes h.sg id p hx hm).mono ?_
    rintro e w1 ⟨rfl, h1, h2⟩
    refine ⟨rfl, ⟨h.sh.grown h2 (fun e => ?_) (fun e => ?_), by rw [look_ins]; exact h1, ins_rising h.up, ins_all h.ids ⟨⟨hx.1, hx.2.1⟩, hx.2.2⟩⟩, h2⟩
    · injection e with e; exact h.sg.mp.ne_bk h.sh.box e.symm
    · injection e with e; exact h.sg.mp.ne_bk h.sh.row e.symm
  · rw [if_neg hx, if_neg hx]
    refine (stset_no id p hx).mono ?_
    rintro e w1 ⟨rfl, h1⟩
    have := h.kept h1
    exact ⟨rfl, ⟨this.sh, this.sg.mono (Nat.le_succ m), this.up, this.ids⟩, only_below h1 _⟩
theorem IOwn.irow {v : Value} {l2 : List Im} {Bv : Nat} (h : IOwn w Bv v l2) : (v = .slice none 0 0 ∧ l2 = []) ∨ ∃ k c, v = .slice (some ⟨k, 0, none⟩) l2.length c ∧ IRow w k l2 ∧ l2.length ≤ maxLen ∧ Bv ≤ k ∧ ∃ cur, Bk w k 65 cur := by
  have h' := h
  rcases h.2 with ⟨rfl, h0⟩ | ⟨k, c, cur, rfl, hb, hh, h1, h2, h3, h4⟩
  · exact .inl ⟨rfl, List.eq_nil_of_length_eq_zero h0⟩
  · refine .inr ⟨k, c, rfl, ⟨(Array.getElem?_eq_some_iff.1 hh).1, fun i p hi j v hv => ?_⟩, by omega, hb, cur, hh⟩
    have hj : j < 17 := by have := (List.getElem?_eq_some_iff.1 hv).1; rwa [im_len] at this
    have := h'.cells (g := k) rfl (i * 17 + j) v (by rw [flatIm_get l2 i p hi j hj]; simpa using hv)
    rw [Addr.add_lit, Nat.zero_add] at this
    exact this
def fit (n : Nat) (l2 : List Im) : Prop := ∀ i ∈ l2, i.fits n
open Classical in
noncomputable def appE (ps : List Pg) (l2 : List Im) : Int := if fit ps.length l2 then 0 else 1
open Classical in
noncomputable def appL (ps : List Pg) (l2 : List Im) : List Pg := if fit ps.length l2 then putAll ps l2 else ps
theorem appL_len (ps : List Pg) (l2 : List Im) : (appL ps l2).length = ps.length := by
  unfold appL; split
  · exact putAll_len _ _
  · rfl
open Classical in
theorem sh_apply (h : Sh w B gs r ps) {v : Value} {l2 : List Im} {Bv : Nat} (hv : IOwn w Bv v l2) :
    Calls Tryz.prog 8 #[.pointer (some ⟨gs, 0, none⟩), v] w fun e w' => e = .returned (.int .i64 (appE ps l2)) ∧ Sh w' B gs r (appL ps l2) ∧ w.grownBy w' (some r) := by
  unfold appE appL
  rcases hv.irow with ⟨rfl, rfl⟩ | ⟨k, c, rfl, h1, h2, h3, cur, h4⟩
  · have hf : fit ps.length [] := fun i hi => by cases hi
    rw [if_pos hf, if_pos hf]
    refine (apply_nil h).mono ?_
    rintro e w' ⟨rfl, rfl⟩
    exact ⟨rfl, h, ⟨rfl, rfl, rfl, Nat.le_refl _, fun _ _ _ => rfl⟩⟩
  · refine (apply_any h k c l2 h1 (Bk.ne_ h4 h.row (by decide)) h2).mono ?_
    rintro e w' (⟨rfl, hf, hb⟩ | ⟨rfl, hf, hs, hg⟩)
    · have hf' : ¬ fit ps.length l2 := hf
      rw [if_neg hf', if_neg hf']
      exact ⟨rfl, h.kept hb, only_below hb _⟩
    · have hf' : fit ps.length l2 := hf
      rw [if_pos hf', if_pos hf']
      exact ⟨rfl, hs, hg⟩
theorem ss_apply (h : SS w B g b m gs r ps l) {v : Value} {l2 : List Im} {Bv : Nat} (hv : IOwn w Bv v l2) :
    Calls Tryz.prog 8 #[.pointer (some ⟨gs, 0, none⟩), v] w fun e w' => e = .returned (.int .i64 (appE ps l2)) ∧ SS w' B g b m gs r (appL ps l2) l ∧ w.grownBy w' (some r) := by
  refine (sh_apply h.sh hv).mono ?_
  rintro e w' ⟨rfl, h1, h2⟩
  exact ⟨rfl, ⟨h1, h.sg.grown h2 (fun e => by injection e with e; exact Bk.ne_ h.sg.box h.sh.row (by decide) e) (fun e => by injection e with e; exact h.sg.mp.ne_bk h.sh.row e), h.up, h.ids⟩, h2⟩
theorem ss_drop (h : SS w B g b m gs r ps l) :
    Calls Tryz.prog 30 #[.pointer (some ⟨g, 0, none⟩)] w fun e w' => e = .returned (.tuple #[]) ∧ SS w' B g b 0 gs r ps [] ∧ w.grownBy w' (some b) := by
  refine (stdrop_any h.sg).mono ?_
  rintro e w' ⟨rfl, h1, h2⟩
  refine ⟨rfl, ⟨h.sh.grown h2 (fun e => ?_) (fun e => ?_), h1, List.Pairwise.nil, fun i hi => by cases hi⟩, h2⟩
  · injection e with e; exact h.sg.mp.ne_bk h.sh.box e.symm
  · injection e with e; exact h.sg.mp.ne_bk h.sh.row e.symm
theorem ss_new (h : Sh w B gs r ps) (hB : B ≤ w.heap.size) :
    Calls Tryz.prog 11 #[.iface 24 (.pointer (some ⟨gs, 0, none⟩))] w fun e w' => ∃ g b, e = .returned (.pointer (some ⟨g, 0, none⟩)) ∧ SS w' B g b 0 gs r ps [] ∧ Below w.heap.size w w' ∧ w.heap.size ≤ g ∧ w.heap.size ≤ b := by
  refine (stnew_any 24 (.pointer (some ⟨gs, 0, none⟩)) w).mono ?_
  rintro e w' ⟨g, b, rfl, h1, h2⟩
  exact ⟨g, b, rfl, ⟨h.kept h2, ⟨h1.box, h1.mp, Nat.le_trans hB h1.bg, Nat.le_trans hB h1.bb⟩, List.Pairwise.nil, fun i hi => by cases hi⟩, h2, h1.bg, h1.bb⟩
end
end Go.Proofs.YtelbioooggnbiaaGreat
