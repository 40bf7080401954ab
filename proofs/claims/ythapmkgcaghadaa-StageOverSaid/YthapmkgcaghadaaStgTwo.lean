/- A stage over a stage over a shelf. -/
import Derived.Test.YthapmkgcaghadaaStgLib
set_option linter.unusedVariables false
set_option linter.unusedSimpArgs false
namespace Go.Proofs.Ythapmkgcaghadaa
open Go.RowKit Go.Maps

set_option maxRecDepth 100000 in
set_option maxHeartbeats 1000000 in
theorem source_stage {w : World} {B g b m : Nat} {v : Addr} {f : Int → Option Pg} (h : Sg w B g b m (.iface 32 (.pointer (some v))) f) (id : Int) (r : Pg × Int)
    (hg : ∀ w', Below w.heap.size w w' → Calls Try.prog 10 #[.pointer (some v), .int .i64 id] w' (PgPost r w')) :
    Calls Try.prog 22 #[.pointer (some ⟨g, 0, none⟩), .int .i64 id] w (PgPost (if r.2 = 0 then r else (Pg.zero, r.2)) w) := by
  have H := Lib.hid (h.kept ((Below.refl w.heap.size w).alloc (Nat.le_refl _) (.cells Pg.zero.cs 42)))
  have CG := Lib.hid (hg _ ((Below.refl w.heap.size w).alloc (Nat.le_refl _) (.cells Pg.zero.cs 42)))
  have Z := Lib.hid (Bk.new w 42 Pg.zero.cs)
  have B0 := Lib.hid ((Below.refl w.heap.size w).alloc (Nat.le_refl _) (.cells Pg.zero.cs 42))
  clear h hg
  obtain ⟨p, er⟩ := r
  obtain ⟨res, hres⟩ : ∃ res, res = (if er = 0 then (p, er) else (Pg.zero, er)) := ⟨_, rfl⟩
  dsimp only
  rw [← hres]
  have HR := Lib.hid hres
  clear hres
  go_enter Try.func22, Try.ntmps22
  go_upto_region 1 with fail
  change Code.wp _ _ _ _ (w.alloc (.cells Pg.zero.cs 42))
  generalize w.alloc (.cells Pg.zero.cs 42) = w0 at *
  obtain ⟨G, hG⟩ : ∃ G, G = w.heap.size := ⟨_, rfl⟩
  rw [← hG] at Z ⊢
  have HG := Lib.hid hG
  clear hG
  have hm : ∀ w : World, (method 219 32 (.pointer (some v)) "Get").run Try.prog w = .ok (10, .pointer (some v)) w := fun w => by kernel_rfl
  have c0 : w0.cell? ⟨g, 0, none⟩ = some (.iface 32 (.pointer (some v))) := H.out.box.cell 0
  go_wp2_with fail
  refine CG.out.mono ?_
  rintro e w1 ⟨rfl, hb⟩
  have Z1 := Lib.hid (Z.out.kept hb)
  have B1 := Lib.hid (below_then B0.out hb B0.out.size)
  have GL := Lib.hid (show w.heap.size ≤ G from Nat.le_of_eq HG.out.symm)
  clear hb CG Z B0 H c0
  by_cases he : er = 0
  · subst he
    have hr := HR.out
    rw [if_pos rfl] at hr
    subst hr
    clear HR
    go_wp2_with (first | (refine store_page_new rfl _ _ rfl p rfl rfl ?_) | (refine load_page rfl _ rfl w1.heap.size p rfl (Bk.new w1 _ _) ?_) | (refine store_page rfl _ _ rfl G p Pg.zero rfl rfl (Z1.out.alloc _) ?_))
    refine bodyPost_ret (page_res rfl _ _ G p.cs (row_bk (Z1.out.alloc _)) rfl rfl) rfl ?_
    exact ⟨rfl, below_row ((B1.out).alloc B1.out.size _) GL.out⟩
  · have hne : (er != 0) = true := by simp [he]
    have hr := HR.out
    rw [if_neg he] at hr
    subst hr
    clear HR he
    go_wp2_with (first | (refine store_page_new rfl _ _ rfl p rfl rfl ?_) | (refine store_page rfl _ _ rfl G Pg.zero Pg.zero rfl rfl (Z1.out.alloc _) ?_))
    refine bodyPost_ret (page_res rfl _ _ G Pg.zero.cs (row_bk (Z1.out.alloc _)) rfl rfl) rfl ?_
    exact ⟨rfl, below_row ((B1.out).alloc B1.out.size _) GL.out⟩

structure TS (w : World) (B g b m gs r : Nat) (ps : List Pg) (l : List Im) (g2 b2 m2 : Nat) (l2 : List Im) : Prop where
  lo : SS w B g b m gs r ps l
  hi : Sg w B g2 b2 m2 (.iface 32 (.pointer (some ⟨g, 0, none⟩))) (look l2)
  ne : b2 ≠ b
  up2 : Rising l2
  ids2 : ∀ i ∈ l2, (0 ≤ i.id ∧ i.id < 1024) ∧ i.p.ok
section
variable {w w' : World} {B g b m gs r : Nat} {ps : List Pg} {l : List Im} {g2 b2 m2 : Nat} {l2 : List Im}
theorem TS.kept (h : TS w B g b m gs r ps l g2 b2 m2 l2) (hb : Below w.heap.size w w') : TS w' B g b m gs r ps l g2 b2 m2 l2 := ⟨h.lo.kept hb, h.hi.kept hb, h.ne, h.up2, h.ids2⟩
theorem TS.alloc (h : TS w B g b m gs r ps l g2 b2 m2 l2) (o : Obj) : TS (w.alloc o) B g b m gs r ps l g2 b2 m2 l2 := h.kept ((Below.refl _ _).alloc (Nat.le_refl _) o)
theorem TS.drewN (h : TS w B g b m gs r ps l g2 b2 m2 l2) (n : Nat) : TS (w.drewN n) B g b m gs r ps l g2 b2 m2 l2 := h.kept ⟨rfl, rfl, rfl, Nat.le_refl _, fun _ _ => rfl⟩
theorem TS.grown (h : TS w B g b m gs r ps l g2 b2 m2 l2) {row : Option Nat} (hg : w.grownBy w' row) (hr : ∀ k, row = some k → k ≠ g ∧ k ≠ b ∧ k ≠ gs ∧ k ≠ r ∧ k ≠ g2 ∧ k ≠ b2) : TS w' B g b m gs r ps l g2 b2 m2 l2 :=
  ⟨h.lo.grown hg (fun k hk => by have := hr k hk; exact ⟨this.1, this.2.1, this.2.2.1, this.2.2.2.1⟩), h.hi.grown hg (fun e => (hr g2 e.symm).2.2.2.2.1 rfl) (fun e => (hr b2 e.symm).2.2.2.2.2 rfl), h.ne, h.up2, h.ids2⟩
theorem TS.row_ne (h : TS w B g b m gs r ps l g2 b2 m2 l2) {k : Nat} {t : TypeId} {cs : Array Value} (hk : Bk w k t cs) (h1 : t ≠ 70) (h2 : t ≠ 65) (h3 : k ≠ r) : k ≠ g ∧ k ≠ b ∧ k ≠ gs ∧ k ≠ r ∧ k ≠ g2 ∧ k ≠ b2 := by
  have := h.lo.row_ne hk h1 h2 h3
  exact ⟨this.1, this.2.1, this.2.2.1, this.2.2.2, Bk.ne_ hk h.hi.box h1, fun e => h.hi.mp.ne_bk hk e.symm⟩
theorem ssGet_norm (ps : List Pg) (l : List Im) (id : Int) : (if (ssGet ps l id).2 = 0 then ssGet ps l id else (Pg.zero, (ssGet ps l id).2)) = ssGet ps l id := by
  unfold ssGet stGet
  split
  · rfl
  · exact getPg_norm ps id
theorem ts_source (h : TS w B g b m gs r ps l g2 b2 m2 l2) (id : Int) (h1 : -9223372036854775808 ≤ id) (h2 : id ≤ 9223372036854775807) : Calls Try.prog 22 #[.pointer (some ⟨g2, 0, none⟩), .int .i64 id] w (PgPost (ssGet ps l id) w) := by
  have := source_stage h.hi id (ssGet ps l id) (fun w' hb => ss_get (h.lo.kept hb) id h1 h2)
  rw [ssGet_norm] at this
  exact this
def tsGet (ps : List Pg) (l l2 : List Im) (id : Int) : Pg × Int := stGet (look l2) (ssGet ps l id) id
theorem ts_get (h : TS w B g b m gs r ps l g2 b2 m2 l2) (id : Int) (h1 : -9223372036854775808 ≤ id) (h2 : id ≤ 9223372036854775807) : Calls Try.prog 10 #[.pointer (some ⟨g2, 0, none⟩), .int .i64 id] w (PgPost (tsGet ps l l2 id) w) :=
  stget_any h.hi id h1 h2 (ssGet ps l id) fun w' hb => ts_source (h.kept hb) id h1 h2
theorem ts_images (h : TS w B g b m gs r ps l g2 b2 m2 l2) : Calls Try.prog 14 #[.pointer (some ⟨g2, 0, none⟩)] w (ImsPost w (ssGet ps l) l2) :=
  images_any h.hi h.up2 (fun i hi => (h.ids2 i hi).1) (ssGet ps l) fun w' id h1 h2 hb => ts_source (h.kept hb) id (by omega) (by omega)
theorem TS.turn (h : TS w B g b m gs r ps l g2 b2 m2 l2) (hg : w.grownBy w' (some b2)) : SS w' B g b m gs r ps l :=
  h.lo.grown hg fun k hk => by
    cases hk
    exact ⟨h.hi.mp.ne_bk h.lo.sg.box, h.ne, h.hi.mp.ne_bk h.lo.sh.box, h.hi.mp.ne_bk h.lo.sh.row⟩
open Classical in
theorem ts_set (h : TS w B g b m gs r ps l g2 b2 m2 l2) (id : Int) (p : Pg) (hm : m2 < maxLen) :
    Calls Try.prog 12 #[.pointer (some ⟨g2, 0, none⟩), .int .i64 id, .agg p.cs] w fun e w' => e = .returned (.int .i64 (setE id p)) ∧ TS w' B g b m gs r ps l g2 b2 (m2 + 1) (setL l2 id p) ∧ w.grownBy w' (some b2) := by
  unfold setE setL
  by_cases hx : sok id p
  · rw [if_pos hx, if_pos hx]
    refine (stset_yes h.hi id p hx hm).mono ?_
    rintro e w1 ⟨rfl, h1, h2⟩
    exact ⟨rfl, ⟨h.turn h2, by rw [look_ins]; exact h1, h.ne, ins_rising h.up2, ins_all h.ids2 ⟨⟨hx.1, hx.2.1⟩, hx.2.2⟩⟩, h2⟩
  · rw [if_neg hx, if_neg hx]
    refine (stset_no id p hx).mono ?_
    rintro e w1 ⟨rfl, h1⟩
    have := h.kept h1
    exact ⟨rfl, ⟨this.lo, this.hi.mono (Nat.le_succ m2), this.ne, this.up2, this.ids2⟩, only_below h1 _⟩
theorem ts_drop (h : TS w B g b m gs r ps l g2 b2 m2 l2) :
    Calls Try.prog 19 #[.pointer (some ⟨g2, 0, none⟩)] w fun e w' => e = .returned (.tuple #[]) ∧ TS w' B g b m gs r ps l g2 b2 0 [] ∧ w.grownBy w' (some b2) := by
  refine (stdrop_any h.hi).mono ?_
  rintro e w' ⟨rfl, h1, h2⟩
  exact ⟨rfl, ⟨h.turn h2, h1, h.ne, List.Pairwise.nil, fun i hi => by cases hi⟩, h2⟩
theorem ts_new (h : SS w B g b m gs r ps l) (hB : B ≤ w.heap.size) :
    Calls Try.prog 9 #[.iface 32 (.pointer (some ⟨g, 0, none⟩))] w fun e w' => ∃ g2 b2, e = .returned (.pointer (some ⟨g2, 0, none⟩)) ∧ TS w' B g b m gs r ps l g2 b2 0 [] ∧ Below w.heap.size w w' := by
  refine (stnew_any 32 (.pointer (some ⟨g, 0, none⟩)) w).mono ?_
  rintro e w' ⟨g2, b2, rfl, h1, h2⟩
  refine ⟨g2, b2, rfl, ⟨h.kept h2, ⟨h1.box, h1.mp, Nat.le_trans hB h1.bg, Nat.le_trans hB h1.bb⟩, fun e => ?_, List.Pairwise.nil, fun i hi => by cases hi⟩, h2⟩
  have := h.sg.mp.lt
  have := h1.bb
  omega
end
/-- An array of pages. -/
def PArr (w : World) (g : Nat) (t : TypeId) (ps : List Pg) : Prop := Bk w g t (flatPg ps).toArray
namespace PArr
variable {w w' : World} {g : Nat} {t : TypeId} {ps : List Pg}
theorem range (h : PArr w g t ps) {i : Nat} {p : Pg} (hi : ps[i]? = some p) : w.rangeAt g (i * 16) p.cs.toList := fun j v hv => by
  have hj : j < 16 := by have := (List.getElem?_eq_some_iff.1 hv).1; rwa [pg_len] at this
  rw [Bk.cell h, List.getElem?_toArray, flat_get ps i p hi j hj]
  simpa using hv
theorem there (h : PArr w g t ps) {i : Nat} (hi : i < ps.length) : w.there g (i * 16) 16 := fun j hj => by
  refine ⟨?_, Bk.fz h _⟩
  rw [Bk.cell h, List.getElem?_toArray, flat_get ps i _ (List.getElem?_eq_getElem hi) j hj, Array.getElem?_eq_getElem (show j < (ps[i]).cs.size from hj)]
  rfl
theorem set (h : PArr w g t ps) (i : Nat) (p : Pg) (hi : i < ps.length) : PArr (w.setCells g (i * 16) p.cs.toList) g t (ps.set i p) := by
  have := Bk.lays p.cs.toList w _ (i * 16) h
  unfold PArr
  rw [← flat_set ps i p hi]
  exact this
end PArr
section
variable {ops : Array Oper} {rest : List Oper} {o : Oper} {a : Act} {w : World} {Q : Exit → Act → World → Prop}
theorem store_arr_at (hgd : o.guard = none) (x y : Operand) (ho : o.op = .store 42 x y) (g : Nat) (t : TypeId) (ps : List Pg) (i : Nat) (p : Pg) (hi : i < ps.length) (hx : a.eval x = .pointer (some ⟨g, i * 16, none⟩)) (hy : a.eval y = .agg p.cs) (hr : PArr w g t ps)
    (h : PArr (w.setCells g (i * 16) p.cs.toList) g t (ps.set i p) → wpList Try.prog ops Q rest (a.put o.dst undef) (w.setCells g (i * 16) p.cs.toList)) : wpList Try.prog ops Q (o :: rest) a w :=
  wpList_store_mid hgd 42 x y ho g (i * 16) p.cs hx hy (hr.there hi) (by rw [show p.cs.size = 16 from rfl]; kernel_rfl) (by unfold Pg.cs; simp [Value.oneCell']) (h (hr.set i p hi))
end
end Go.Proofs.Ythapmkgcaghadaa
