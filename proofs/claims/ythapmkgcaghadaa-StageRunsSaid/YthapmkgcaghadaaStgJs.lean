/- The stage and the reference's, side by side. -/
import Derived.Test.YthapmkgcaghadaaStgRef3
import Derived.Test.YthapmkgcaghadaaStgCall
set_option linter.unusedVariables false
set_option linter.unusedSimpArgs false
namespace Go.Proofs.Ythapmkgcaghadaa
open Go.RowKit Go.Maps

section
variable {w w' : World} {B g b m gs r k r2 t : Nat} {ps : List Pg} {l : List Im} {v : Value}
theorem RT.grown (h : RT w B k r2 ps t v l) {row : Option Nat} (hg : w.grownBy w' row) (hr : ∀ q, row = some q → q ≠ k ∧ q ≠ r2 ∧ q ≠ t ∧ v.ownBlock ≠ some q) : RT w' B k r2 ps t v l :=
  ⟨h.sh.grown hg (fun e => (hr k e.symm).1 rfl) (fun e => (hr r2 e.symm).2.1 rfl), h.box.grown hg (fun e => (hr t e.symm).2.2.1 rfl), ow_same h.own (fun q hq => hg.block q (ow_blk h.own hq).2.1 (fun e => (hr q e.symm).2.2.2 hq)), h.bt, h.up, h.ids⟩
structure JS (w : World) (B g b m gs r : Nat) (ps : List Pg) (l : List Im) (k r2 t : Nat) (v : Value) : Prop where
  ss : SS w B g b m gs r ps l
  rt : RT w B k r2 ps t v l
  ne : r ≠ r2
theorem JS.kept (h : JS w B g b m gs r ps l k r2 t v) (hb : Below w.heap.size w w') : JS w' B g b m gs r ps l k r2 t v := ⟨h.ss.kept hb, h.rt.kept hb, h.ne⟩
theorem JS.alloc (h : JS w B g b m gs r ps l k r2 t v) (o : Obj) : JS (w.alloc o) B g b m gs r ps l k r2 t v := h.kept ((Below.refl _ _).alloc (Nat.le_refl _) o)
theorem JS.map_turn (h : JS w B g b m gs r ps l k r2 t v) (hg : w.grownBy w' (some b)) : RT w' B k r2 ps t v l :=
  h.rt.grown hg fun q hq => by
    cases hq
    exact ⟨h.ss.sg.mp.ne_bk h.rt.sh.box, h.ss.sg.mp.ne_bk h.rt.sh.row, h.ss.sg.mp.ne_bk h.rt.box, fun e => by obtain ⟨_, _, c, hc⟩ := ow_blk h.rt.own e; exact h.ss.sg.mp.ne_bk hc rfl⟩
theorem JS.row_turn (h : JS w B g b m gs r ps l k r2 t v) (hg : w.grownBy w' (some r)) : RT w' B k r2 ps t v l :=
  h.rt.grown hg fun q hq => by
    cases hq
    exact ⟨Bk.ne_ h.ss.sh.row h.rt.sh.box (by decide), h.ne, Bk.ne_ h.ss.sh.row h.rt.box (by decide), fun e => by obtain ⟨_, _, c, hc⟩ := ow_blk h.rt.own e; exact Bk.ne_ h.ss.sh.row hc (by decide) rfl⟩
theorem SS.ref_turn {l2 : List Im} (h : SS w B g b m gs r ps l) (hr : RT w B k r2 ps t v l2) (hg : w.grownBy w' (some t)) : SS w' B g b m gs r ps l :=
  h.grown hg fun q hq => by cases hq; exact h.row_ne hr.box (by decide) (by decide) (Bk.ne_ hr.box h.sh.row (by decide))
theorem SS.ref_row {ps2 : List Pg} {l2 : List Im} (h : SS w B g b m gs r ps l) (hr : RT w B k r2 ps2 t v l2) (hne : r ≠ r2) (hg : w.grownBy w' (some r2)) : SS w' B g b m gs r ps l :=
  h.grown hg fun q hq => by cases hq; exact h.row_ne hr.sh.row (by decide) (by decide) hne.symm
open Classical in
theorem rset_any (h : RT w B k r2 ps t v l) (hB : B ≤ w.heap.size) (id : Int) (p : Pg) :
    Calls Try.prog 13 #[.pointer (some ⟨t, 0, none⟩), .int .i64 id, .agg p.cs] w fun e w' => e = .returned (.int .i64 (setE id p)) ∧ ∃ v', RT w' B k r2 ps t v' (setL l id p) ∧ w.grownBy w' (some t) := by
  unfold setE setL
  by_cases hx : sok id p
  · rw [if_pos hx, if_pos hx]; exact rset_yes h hB id p hx
  · rw [if_neg hx, if_neg hx]
    refine (rset_no id p hx).mono ?_
    rintro e w1 ⟨rfl, h1⟩
    exact ⟨rfl, v, h.kept h1, only_below h1 _⟩
set_option maxRecDepth 100000 in
set_option maxHeartbeats 1000000 in
theorem rapply_nil (h : RS w B k r2 ps) :
    Calls Try.prog 18 #[.pointer (some ⟨k, 0, none⟩), .slice none 0 0] w fun e w' => e = .returned (.int .i64 0) ∧ w' = w := by
  clear h
  go_enter Try.func18, Try.ntmps18
  go_wp2_with fail
  go_loopw [5] (fun i wr => i = .int .i64 0 ∧ wr = w) (fun i _ => 0)
  case atStart => exact ⟨rfl, rfl⟩
  case round =>
    obtain ⟨rfl, hw⟩ := hrel
    subst hw
    go_wp2_with fail
    go_loopw [6] (fun i wx => i = .int .i64 0 ∧ wx = wr) (fun i _ => 0)
    case atStart => exact ⟨rfl, rfl⟩
    case round =>
      obtain ⟨rfl, rfl⟩ := hrel
      go_wp2
      go_ret
      exact ⟨rfl, rfl⟩
open Classical in
theorem rapply_any (h : RT w B k r2 ps t v l) {v2 : Value} {l2 : List Im} {Bv : Nat} (hv : IOwn w Bv v2 l2) (hn : l2.length ≤ 1024) :
    Calls Try.prog 18 #[.pointer (some ⟨k, 0, none⟩), v2] w fun e w' => e = .returned (.int .i64 (appE ps l2)) ∧ RT w' B k r2 (appL ps l2) t v l ∧ w.grownBy w' (some r2) := by
  unfold appE appL
  rcases hv.irow with ⟨rfl, rfl⟩ | ⟨q, c, rfl, h1, h2, h3, cur, h4⟩
  · have hf : fit ps.length [] := fun i hi => by cases hi
    rw [if_pos hf, if_pos hf]
    refine (rapply_nil h.sh).mono ?_
    rintro e w' ⟨rfl, rfl⟩
    exact ⟨rfl, h, ⟨rfl, rfl, rfl, Nat.le_refl _, fun _ _ _ => rfl⟩⟩
  · refine (rapply_row h.sh q c l2 h1 (Bk.ne_ h4 h.sh.row (by decide)) hn).mono ?_
    rintro e w' (⟨rfl, hf, hb⟩ | ⟨rfl, hf, hs, hg⟩)
    · rw [if_neg hf, if_neg hf]
      exact ⟨rfl, h.kept hb, only_below hb _⟩
    · rw [if_pos hf, if_pos hf]
      refine ⟨rfl, ⟨hs, h.box.grown hg (fun e => by injection e with e; exact Bk.ne_ h.box h.sh.row (by decide) e), ow_same h.own (fun q hq => hg.block q (ow_blk h.own hq).2.1 (fun e => ?_)), h.bt, h.up, h.ids⟩, hg⟩
      injection e with e
      obtain ⟨_, _, c2, hc⟩ := ow_blk h.own hq
      exact Bk.ne_ hc h.sh.row (by decide) e
theorem RT.dropped (h : RT w B k r2 ps t v l) : RT (w.setCell ⟨t, 1, none⟩ (.slice none 0 0)) B k r2 ps t (.slice none 0 0) [] := by
  have far : ∀ {q : Nat}, q ≠ t → (w.setCell ⟨t, 1, none⟩ (.slice none 0 0)).heap[q]? = w.heap[q]? := fun {q} hq => Below.heap_setCell w ⟨t, 1, none⟩ _ q hq
  exact ⟨⟨(far (Bk.ne_ h.sh.box h.box (by decide))).trans h.sh.box, h.sh.row.of_block (far (Bk.ne_ h.sh.row h.box (by decide))), h.sh.one, h.sh.most, h.sh.bk, h.sh.br⟩, h.box.set 1 _, World.ownsRow_nil _ _ _ _, h.bt, List.Pairwise.nil, fun i hi => by cases hi⟩
theorem only_cell (w : World) (t i : Nat) (u : Value) : w.grownBy (w.setCell ⟨t, i, none⟩ u) (some t) := ⟨rfl, rfl, rfl, by simp [World.setCell], fun q _ hq => Below.heap_setCell w ⟨t, i, none⟩ u q (fun e => hq (by rw [e]))⟩
end
set_option maxRecDepth 100000 in
/-- A stage over none. -/
theorem stnew_none (w : World) : Calls Try.prog 9 #[.nilIface] w fun e w' => ∃ g b, e = .returned (.pointer (some ⟨g, 0, none⟩)) ∧ Sg w' w.heap.size g b 0 .nilIface (fun _ => none) ∧ Below w.heap.size w w' := by
  have M := Lib.hid (Mp.made w Try.prog 3)
  have B0 := Lib.hid ((Below.refl w.heap.size w).alloc (Nat.le_refl _) (.map #[] 0))
  have hmk := fun w => run_makeMap (P := Try.prog) 68 w
  go_enter Try.func9, Try.ntmps9
  go_wp2
  go_ret
  refine ⟨w.heap.size + 1, w.heap.size, rfl, ⟨Bk.new2 w _ _ _, ?_, by omega, Nat.le_refl _⟩, B0.out.alloc B0.out.size _⟩
  rw [keyed_none]
  exact M.out.alloc _
set_option maxRecDepth 100000 in
set_option maxHeartbeats 1000000 in
theorem source_none {w : World} {B g b m : Nat} {f : Int → Option Pg} (h : Sg w B g b m .nilIface f) (id : Int) :
    Calls Try.prog 22 #[.pointer (some ⟨g, 0, none⟩), .int .i64 id] w (PgPost (Pg.zero, 1) w) := by
  have H := Lib.hid (h.kept ((Below.refl w.heap.size w).alloc (Nat.le_refl _) (.cells Pg.zero.cs 42)))
  have Z := Lib.hid (Bk.new w 42 Pg.zero.cs)
  have B0 := Lib.hid ((Below.refl w.heap.size w).alloc (Nat.le_refl _) (.cells Pg.zero.cs 42))
  clear h
  go_enter Try.func22, Try.ntmps22
  go_upto_region 1 with fail
  change Code.wp _ _ _ _ (w.alloc (.cells Pg.zero.cs 42))
  generalize w.alloc (.cells Pg.zero.cs 42) = w0 at *
  obtain ⟨G, hG⟩ : ∃ G, G = w.heap.size := ⟨_, rfl⟩
  rw [← hG] at Z ⊢
  have GL := Lib.hid (show w.heap.size ≤ G from Nat.le_of_eq hG.symm)
  clear hG
  have c0 : w0.cell? ⟨g, 0, none⟩ = some .nilIface := H.out.box.cell 0
  go_wp2_with (first | (refine build_zero_if rfl (by first | rfl | kernel_rfl) ?_) | (refine store_page rfl _ _ rfl G Pg.zero Pg.zero rfl rfl Z.out ?_))
  refine bodyPost_ret (page_res rfl _ _ G Pg.zero.cs (row_bk Z.out) rfl rfl) rfl ?_
  exact ⟨rfl, below_row B0.out GL.out⟩
theorem stget_none {w : World} {B g b m : Nat} (h : Sg w B g b m .nilIface (fun _ => none)) : Calls Try.prog 10 #[.pointer (some ⟨g, 0, none⟩), .int .i64 0] w (PgPost (Pg.zero, 1) w) :=
  stget_any h 0 (by decide) (by decide) (Pg.zero, 1) fun w' hb => source_none (h.kept hb) 0
end Go.Proofs.Ythapmkgcaghadaa
