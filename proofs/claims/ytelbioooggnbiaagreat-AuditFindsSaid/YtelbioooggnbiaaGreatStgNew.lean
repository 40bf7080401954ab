/- The shelf's Get. A stage over a source: source, Get, Set. A stage's Get, Set, Drop, New. A stage made, its changes dropped. -/
import Derived.Test.YtelbioooggnbiaaGreatStgShelf
import Derived.Test.YtelbioooggnbiaaGreatMap
import Derived.Deep.DeepCutAuto
set_option linter.unusedVariables false
set_option linter.unusedSimpArgs false
namespace Go.Proofs.YtelbioooggnbiaaGreat
open Go.RowKit

def PgPost (r : Pg × Int) (w : World) (e : Ending) (w' : World) : Prop := e = .returned (.tuple #[.agg r.1.cs, .int .i64 r.2]) ∧ Below w.heap.size w w'
set_option maxRecDepth 100000 in
set_option maxHeartbeats 2000000 in
theorem shget_any {w : World} {B g r : Nat} {ps : List Pg} (h : Sh w B g r ps) (id : Int) :
    Calls Tryz.prog 132 #[.pointer (some ⟨g, 0, none⟩), .int .i64 id] w (PgPost (getPg ps id) w) := by
  have H0 := Lib.hid (h.kept ((Below.refl w.heap.size w).alloc (Nat.le_refl _) (.cells Pg.zero.cs 38)))
  have CH := Lib.hid (has_any H0.out id)
  have NB := Lib.hid (Bk.new w 38 Pg.zero.cs)
  unfold getPg
  by_cases hh : hasId ps.length id
  · rw [if_pos hh]
    have hd : decide (hasId ps.length id) = true := decide_eq_true hh
    rw [hd] at CH
    obtain ⟨k, rfl⟩ : ∃ k : Nat, id = k := ⟨id.toNat, by have := hh.1; omega⟩
    have hk : k < ps.length := by have := hh.2; omega
    obtain ⟨p, hp⟩ : ∃ p, ps[k]? = some p := ⟨_, List.getElem?_eq_getElem hk⟩
    have hg : ps.getD k Pg.zero = p := by rw [List.getD_eq_getElem?_getD, hp]; rfl
    rw [Int.toNat_natCast, hg]
    have c0 : (w.alloc (.cells Pg.zero.cs 38)).cell? ⟨g, 0, none⟩ = some (.slice (some ⟨r, 0, none⟩) ps.length ps.length) := H0.out.box.cell 0
    have hki : (k : Int) < (ps.length : Int) := by omega
    clear hh hd h hg
    go_enter Tryz.func132, Tryz.ntmps132
    go_wp2_with fail
    refine CH.out.mono ?_
    rintro e w1 ⟨rfl, rfl⟩
    go_wp2_with (first | (refine load_page_at rfl _ rfl r ps k p hp rfl H0.out.row ?_) | (refine store_page_new rfl _ _ rfl p rfl rfl ?_))
    refine bodyPost_ret (page_res rfl _ _ w.heap.size p.cs (Bk.new w _ _) rfl rfl) rfl ?_
    exact ⟨rfl, (Below.refl _ _).alloc (Nat.le_refl _) _⟩
  · rw [if_neg hh]
    have hd : decide (hasId ps.length id) = false := decide_eq_false hh
    rw [hd] at CH
    clear hh hd h
    go_enter Tryz.func132, Tryz.ntmps132
    go_wp2_with fail
    refine CH.out.mono ?_
    rintro e w1 ⟨rfl, rfl⟩
    go_wp2_with (refine store_page_new rfl _ _ rfl Pg.zero rfl rfl ?_)
    refine bodyPost_ret (page_res rfl _ _ w.heap.size Pg.zero.cs (Bk.new w _ _) rfl rfl) rfl ?_
    exact ⟨rfl, (Below.refl _ _).alloc (Nat.le_refl _) _⟩
end Go.Proofs.YtelbioooggnbiaaGreat
namespace Go.Proofs.YtelbioooggnbiaaGreat
open Go.RowKit Go.Maps

/-- What a stage holds, by the model's keys. -/
def keyed (f : Int → Option Pg) : Lit → Option Value
  | .int .i64 i => (f i).map fun p => .agg p.cs
  | _ => none
def setPg (f : Int → Option Pg) (id : Int) (p : Pg) : Int → Option Pg := fun i => if i = id then some p else f i
theorem keyed_put (f : Int → Option Pg) (id : Int) (p : Pg) : fput (keyed f) (.int .i64 id) (.agg p.cs) = keyed (setPg f id p) := by
  funext x
  unfold fput
  cases x with
  | int q i =>
    cases q <;> simp [Lit.sameKey, keyed, setPg] <;> split <;> simp_all
  | _ => simp [Lit.sameKey, keyed]
theorem keyed_none : keyed (fun _ => none) = fun _ => none := by
  funext x
  cases x with
  | int q i => cases q <;> rfl
  | _ => rfl
theorem below_row {B : Nat} {a w : World} {g : Nat} {cs : Array Value} (h : Below B a w) (hg : B ≤ g) : Below B a (w.setRow g cs) :=
  ⟨h.os, h.tape, h.output, by have := h.size; simpa [World.setRow] using this, fun i hi => (setRow_other w g i cs (by omega)).trans (h.block i hi)⟩
/-- A stage over a source, in block g, its pages in block b. -/
structure Sg (w : World) (B g b m : Nat) (sv : Value) (f : Int → Option Pg) : Prop where
  box : Bk w g 62 #[sv, .map (some b)]
  mp : Mp w Tryz.prog 3 b m (keyed f)
  bg : B ≤ g
  bb : B ≤ b
theorem Sg.kept {w w' : World} {B g b m : Nat} {sv : Value} {f : Int → Option Pg} (h : Sg w B g b m sv f) (hb : Below w.heap.size w w') : Sg w' B g b m sv f := ⟨h.box.kept hb, h.mp.kept hb, h.bg, h.bb⟩
set_option maxRecDepth 100000 in
set_option maxHeartbeats 1000000 in
theorem source_shelf {w : World} {B g b m : Nat} {v : Addr} {f : Int → Option Pg} (h : Sg w B g b m (.iface 24 (.pointer (some v))) f) (id : Int) (r : Pg × Int)
    (hg : ∀ w', Below w.heap.size w w' → Calls Tryz.prog 132 #[.pointer (some v), .int .i64 id] w' (PgPost r w')) :
    Calls Tryz.prog 21 #[.pointer (some ⟨g, 0, none⟩), .int .i64 id] w (PgPost (if r.2 = 0 then r else (Pg.zero, r.2)) w) := by
  have H := Lib.hid (h.kept ((Below.refl w.heap.size w).alloc (Nat.le_refl _) (.cells Pg.zero.cs 38)))
  have CG := Lib.hid (hg _ ((Below.refl w.heap.size w).alloc (Nat.le_refl _) (.cells Pg.zero.cs 38)))
  have Z := Lib.hid (Bk.new w 38 Pg.zero.cs)
  have B0 := Lib.hid ((Below.refl w.heap.size w).alloc (Nat.le_refl _) (.cells Pg.zero.cs 38))
  clear h hg
  obtain ⟨p, er⟩ := r
  obtain ⟨res, hres⟩ : ∃ res, res = (if er = 0 then (p, er) else (Pg.zero, er)) := ⟨_, rfl⟩
  dsimp only
  rw [← hres]
  have HR := Lib.hid hres
  clear hres
  go_enter Tryz.func21, Tryz.ntmps21
  go_upto_region 1 with fail
  change Code.wp _ _ _ _ (w.alloc (.cells Pg.zero.cs 38))
  generalize w.alloc (.cells Pg.zero.cs 38) = w0 at *
  obtain ⟨G, hG⟩ : ∃ G, G = w.heap.size := ⟨_, rfl⟩
  rw [← hG] at Z ⊢
  have HG := Lib.hid hG
  clear hG
  have hm : ∀ w : World, (method 305 24 (.pointer (some v)) "Get").run Tryz.prog w = .ok (132, .pointer (some v)) w := fun w => by kernel_rfl
  have c0 : w0.cell? ⟨g, 0, none⟩ = some (.iface 24 (.pointer (some v))) := H.out.box.cell 0
  go_wp2_with fail
  refine CG.out.mono ?_
  rintro e w1 ⟨rfl, hb⟩
  have Z1 := Lib.hid (Z.out.kept hb)
  have B1 := Lib.hid (below_then B0.out hb B0.out.size)
  have GL := Lib.hid (show w.heap.size ≤ G from Nat.le_of_eq HG.out.symm)
  clear hb CG Z B0 H c0
  by_cases he : er = 0
  · subst he
    have hr := HR.out
    rw [if_pos rfl] at hr
    subst hr
    clear HR
    go_wp2_with (first | (refine store_page_new rfl _ _ rfl p rfl rfl ?_) | (refine load_page rfl _ rfl w1.heap.size p rfl (Bk.new w1 _ _) ?_) | (refine store_page rfl _ _ rfl G p Pg.zero rfl rfl (Z1.out.alloc _) ?_))
    refine bodyPost_ret (page_res rfl _ _ G p.cs (row_bk (Z1.out.alloc _)) rfl rfl) rfl ?_
    exact ⟨rfl, below_row ((B1.out).alloc B1.out.size _) GL.out⟩
  · have hne : (er != 0) = true := by simp [he]
    have hr := HR.out
    rw [if_neg he] at hr
    subst hr
    clear HR he
    go_wp2_with (first | (refine store_page_new rfl _ _ rfl p rfl rfl ?_) | (refine store_page rfl _ _ rfl G Pg.zero Pg.zero rfl rfl (Z1.out.alloc _) ?_))
    refine bodyPost_ret (page_res rfl _ _ G Pg.zero.cs (row_bk (Z1.out.alloc _)) rfl rfl) rfl ?_
    exact ⟨rfl, below_row ((B1.out).alloc B1.out.size _) GL.out⟩
end Go.Proofs.YtelbioooggnbiaaGreat
namespace Go.Proofs.YtelbioooggnbiaaGreat
open Go.RowKit Go.Maps

def norm (r : Pg × Int) : Pg × Int := if r.2 = 0 then r else (Pg.zero, r.2)
def stGet (f : Int → Option Pg) (r : Pg × Int) (id : Int) : Pg × Int := match f id with | some p => (p, 0) | none => r
theorem lit64 {id : Int} (h1 : -9223372036854775808 ≤ id) (h2 : id ≤ 9223372036854775807) : (Lit.int .i64 id).wf = true := by
  simp [Lit.wf, IntKind.min, IntKind.max, IntKind.signed, IntKind.bits]; omega
theorem zeroV (w : World) : (zeroValue 38).run Tryz.prog w = .ok (.agg Pg.zero.cs) w := by kernel_rfl
set_option maxRecDepth 100000 in
set_option maxHeartbeats 2000000 in
theorem stget_any {w : World} {B g b m : Nat} {sv : Value} {f : Int → Option Pg} (h : Sg w B g b m sv f) (id : Int) (h1 : -9223372036854775808 ≤ id) (h2 : id ≤ 9223372036854775807) (r : Pg × Int)
    (hs : ∀ w', Below w.heap.size w w' → Calls Tryz.prog 21 #[.pointer (some ⟨g, 0, none⟩), .int .i64 id] w' (PgPost r w')) :
    Calls Tryz.prog 13 #[.pointer (some ⟨g, 0, none⟩), .int .i64 id] w (PgPost (stGet f r id) w) := by
  have K := int_keyed (P := Tryz.prog) Tryz.underlying3
  have KY := keyOf_int_mk (P := Tryz.prog) Tryz.underlying3 (lit64 h1 h2)
  have H := Lib.hid (h.kept ((Below.refl w.heap.size w).alloc (Nat.le_refl _) (.cells Pg.zero.cs 38)))
  have Z := Lib.hid (Bk.new w 38 Pg.zero.cs)
  have B0 := Lib.hid ((Below.refl w.heap.size w).alloc (Nat.le_refl _) (.cells Pg.zero.cs 38))
  have CS := Lib.hid hs
  clear h hs
  obtain ⟨res, hres⟩ : ∃ res, res = stGet f r id := ⟨_, rfl⟩
  rw [← hres]
  have HR := Lib.hid hres
  clear hres
  go_enter Tryz.func13, Tryz.ntmps13
  go_upto_region 1 with fail
  change Code.wp _ _ _ _ (w.alloc (.cells Pg.zero.cs 38))
  generalize w.alloc (.cells Pg.zero.cs 38) = w0 at *
  obtain ⟨G, hG⟩ : ∃ G, G = w.heap.size := ⟨_, rfl⟩
  rw [← hG] at Z ⊢
  have GL := Lib.hid (show w.heap.size ≤ G from Nat.le_of_eq hG.symm)
  clear hG
  have c1 : w0.cell? ⟨g, 1, none⟩ = some (.map (some b)) := H.out.box.cell 1
  go_upto_region 3 with fail
  cases hf : f id with
  | some p =>
    have hk : keyed f (.int .i64 id) = some (.agg p.cs) := by show (f id).map (fun p => Value.agg p.cs) = _; rw [hf]; rfl
    have hr := HR.out
    unfold stGet at hr
    rw [hf] at hr
    subst hr
    have hok : (some (Value.agg p.cs)).isSome = true := rfl
    go_wp2_with (first | (at_lookup; refine wpList_mp_look _ rfl _ _ 60 rfl 3 38 K Tryz.underlying60 (zeroV _) b m (keyed f) rfl H.out.mp _ _ rfl KY ?_; rw [hk]; simp only [Option.getD_some, Option.isSome_some]) | (refine store_page_new rfl _ _ rfl p rfl rfl ?_) | (refine load_page rfl _ rfl w0.heap.size p rfl (Bk.new w0 _ _) ?_) | (refine store_page rfl _ _ rfl G p Pg.zero rfl rfl (Z.out.alloc _) ?_))
    refine bodyPost_ret (page_res rfl _ _ G p.cs (row_bk (Z.out.alloc _)) rfl rfl) rfl ?_
    exact ⟨rfl, below_row ((B0.out).alloc B0.out.size _) GL.out⟩
  | none =>
    have hk : keyed f (.int .i64 id) = none := by show (f id).map (fun p => Value.agg p.cs) = _; rw [hf]; rfl
    have hr := HR.out
    unfold stGet at hr
    rw [hf] at hr
    subst hr
    obtain ⟨p, er⟩ := res
    go_wp2_with (first | (at_lookup; refine wpList_mp_look _ rfl _ _ 60 rfl 3 38 K Tryz.underlying60 (zeroV _) b m (keyed f) rfl H.out.mp _ _ rfl KY ?_; rw [hk]; simp only [Option.getD_none, Option.isSome_none]) | (refine store_page_new rfl _ _ rfl Pg.zero rfl rfl ?_))
    refine (CS.out _ (B0.out.alloc B0.out.size _)).mono ?_
    rintro e w1 ⟨rfl, hb⟩
    have Z1 := Lib.hid ((Z.out.alloc _).kept hb)
    have B1 := Lib.hid (below_then (B0.out.alloc B0.out.size _) hb (Nat.le_trans B0.out.size (by simp)))
    clear hb CS Z B0 H c1
    go_wp2_with (refine store_page rfl _ _ rfl G p Pg.zero rfl rfl Z1.out ?_)
    refine bodyPost_ret (page_res rfl _ _ G p.cs (row_bk Z1.out) rfl rfl) rfl ?_
    exact ⟨rfl, below_row B1.out GL.out⟩
def stSet (f : Int → Option Pg) (id : Int) (p : Pg) : (Int → Option Pg) × Int := if 0 ≤ id ∧ id < 1024 ∧ p.ok then (setPg f id p, 0) else (f, 1)
set_option maxRecDepth 100000 in
set_option maxHeartbeats 2000000 in
theorem stset_no {w : World} {g : Nat} (id : Int) (p : Pg) (hx : ¬ (0 ≤ id ∧ id < 1024 ∧ p.ok)) :
    Calls Tryz.prog 16 #[.pointer (some ⟨g, 0, none⟩), .int .i64 id, .agg p.cs] w fun e w' => e = .returned (.int .i64 1) ∧ Below w.heap.size w w' := by
  have Z := Lib.hid (Bk.new w 38 p.cs)
  have B0 := Lib.hid ((Below.refl w.heap.size w).alloc (Nat.le_refl _) (.cells p.cs 38))
  have CK := Lib.hid (check_any p (w.alloc (.cells p.cs 38)))
  unfold Pg.v at CK
  go_enter Tryz.func16, Tryz.ntmps16
  go_upto_region 1 with fail
  generalize w.alloc (.cells p.cs 38) = w0 at *
  obtain ⟨G, hG⟩ : ∃ G, G = w.heap.size := ⟨_, rfl⟩
  rw [← hG] at Z ⊢
  clear hG
  by_cases h1 : id < 0
  · go_wp2
    go_ret
    exact ⟨rfl, B0.out⟩
  by_cases h2 : (1024 : Int) ≤ id
  · go_wp2
    go_ret
    exact ⟨rfl, B0.out⟩
  have he : p.err = 1 := Pg.err_no fun h => hx ⟨by omega, by omega, h⟩
  rw [he] at CK
  go_wp2_with (refine load_page_if _ rfl (by first | rfl | kernel_rfl) G p rfl Z.out ?_)
  refine CK.out.mono ?_
  rintro e w1 ⟨rfl, hb⟩
  have B1 := Lib.hid (below_then B0.out hb B0.out.size)
  clear hb
  go_wp2
  go_ret
  exact ⟨rfl, B1.out⟩
def SetPost (w : World) (B g b m : Nat) (sv : Value) (f : Int → Option Pg) (e : Ending) (w' : World) : Prop := e = .returned (.int .i64 0) ∧ Sg w' B g b m sv f ∧ w.grownBy w' (some b)
set_option maxRecDepth 100000 in
set_option maxHeartbeats 2000000 in
theorem stset_yes {w : World} {B g b m : Nat} {sv : Value} {f : Int → Option Pg} (h : Sg w B g b m sv f) (id : Int) (p : Pg) (hx : 0 ≤ id ∧ id < 1024 ∧ p.ok) (hm : m < maxLen) :
    Calls Tryz.prog 16 #[.pointer (some ⟨g, 0, none⟩), .int .i64 id, .agg p.cs] w (SetPost w B g b (m + 1) sv (setPg f id p)) := by
  have K := int_keyed (P := Tryz.prog) Tryz.underlying3
  have KY := keyOf_int_mk (P := Tryz.prog) Tryz.underlying3 (lit64 (id := id) (by omega) (by omega))
  have H := Lib.hid (h.kept ((Below.refl w.heap.size w).alloc (Nat.le_refl _) (.cells p.cs 38)))
  have Z := Lib.hid (Bk.new w 38 p.cs)
  have B0 := Lib.hid ((Below.refl w.heap.size w).alloc (Nat.le_refl _) (.cells p.cs 38))
  have CK := Lib.hid (check_any p (w.alloc (.cells p.cs 38)))
  have he : p.err = 0 := Pg.err_ok hx.2.2
  rw [he] at CK
  unfold Pg.v at CK
  have h1 : ¬ id < 0 := by omega
  have h2 : ¬ (1024 : Int) ≤ id := by omega
  have KP := Lib.hid (keyed_put f id p)
  have MM := Lib.hid hm
  clear h hx he
  go_enter Tryz.func16, Tryz.ntmps16
  go_upto_region 1 with fail
  generalize w.alloc (.cells p.cs 38) = w0 at *
  obtain ⟨G, hG⟩ : ∃ G, G = w.heap.size := ⟨_, rfl⟩
  rw [← hG] at Z ⊢
  clear hG
  go_wp2_with (refine load_page_if _ rfl (by first | rfl | kernel_rfl) G p rfl Z.out ?_)
  refine CK.out.mono ?_
  rintro e w1 ⟨rfl, hb⟩
  have H1 := Lib.hid (H.out.kept hb)
  have Z1 := Lib.hid (Z.out.kept hb)
  have B1 := Lib.hid (below_then B0.out hb B0.out.size)
  clear hb CK B0 H Z h1 h2
  have c1 : w1.cell? ⟨g, 1, none⟩ = some (.map (some b)) := H1.out.box.cell 1
  go_upto_region 3 with fail
  refine wp_region_still_tail 6 (by kernel_rfl) (by kernel_rfl) ?_
  simp only [List.take_succ_cons, List.take_zero, List.drop_succ_cons, List.drop_zero]
  still_step
  still_step
  still_step
  still_step
  still_step
  refine still_page rfl _ rfl G p rfl Z1.out.drew ?_
  refine wpStill_nil ?_
  change wpList _ _ _ _ _ w1.drew
  have KZ := KP.out
  go_wp2_with (at_mapUpdate; refine wpList_mp_store _ rfl _ _ _ 60 rfl 3 38 K Tryz.underlying60 b m (keyed f) rfl H1.out.mp.drew MM.out _ (.agg p.cs) _ rfl rfl KY ?_; intro w2 hm2 hg2; rw [KZ] at hm2)
  have H2 : SetPost w B g b (m + 1) sv (setPg f id p) (.returned (.int .i64 0)) w2 := ⟨rfl, ⟨H1.out.box.drew.grown hg2 (fun e => by injection e with e; exact hm2.ne_bk (H1.out.box.drew.grown hg2 (fun e2 => (Mp.ne_bk H1.out.mp H1.out.box) (by injection e2 with e2; exact e2.symm))) e.symm), hm2, H1.out.bg, H1.out.bb⟩, only_trans (only_below B1.out (some b)) (only_trans (only_drew (only_below (Below.refl _ _) (some b))) hg2)⟩
  have H3 := Lib.hid H2
  clear H2 hm2 hg2
  go_wp2
  go_ret
  exact H3.out
end Go.Proofs.YtelbioooggnbiaaGreat
namespace Go.Proofs.YtelbioooggnbiaaGreat
open Go.RowKit Go.Maps

def NewPost (w : World) (sv : Value) (e : Ending) (w' : World) : Prop := ∃ g b, e = .returned (.pointer (some ⟨g, 0, none⟩)) ∧ Sg w' w.heap.size g b 0 sv (fun _ => none) ∧ Below w.heap.size w w'
set_option maxRecDepth 100000 in
theorem stnew_any (T : TypeId) (v : Value) (w : World) : Calls Tryz.prog 11 #[.iface T v] w (NewPost w (.iface T v)) := by
  have M := Lib.hid (Mp.made w Tryz.prog 3)
  have B0 := Lib.hid ((Below.refl w.heap.size w).alloc (Nat.le_refl _) (.map #[] 0))
  have hmk := fun w => run_makeMap (P := Tryz.prog) 60 w
  go_enter Tryz.func11, Tryz.ntmps11
  go_wp2
  go_ret
  unfold NewPost
  refine ⟨w.heap.size + 1, w.heap.size, rfl, ⟨Bk.new2 w _ _ _, ?_, by omega, Nat.le_refl _⟩, B0.out.alloc B0.out.size _⟩
  rw [keyed_none]
  exact M.out.alloc _
set_option maxRecDepth 100000 in
theorem stdrop_any {w : World} {B g b m : Nat} {sv : Value} {f : Int → Option Pg} (h : Sg w B g b m sv f) :
    Calls Tryz.prog 30 #[.pointer (some ⟨g, 0, none⟩)] w fun e w' => e = .returned (.tuple #[]) ∧ Sg w' B g b 0 sv (fun _ => none) ∧ w.grownBy w' (some b) := by
  have H := Lib.hid h
  have c1 : w.cell? ⟨g, 1, none⟩ = some (.map (some b)) := h.box.cell 1
  clear h
  go_enter Tryz.func30, Tryz.ntmps30
  go_wp2_with (refine wpList_mp_clear _ rfl _ 60 rfl 3 38 Tryz.underlying60 b m (keyed f) rfl H.out.mp ?_; intro w2 hm2 hg2)
  have H2 := Lib.hid (show Sg w2 B g b 0 sv (fun _ => none) from ⟨H.out.box.grown hg2 (fun e => by injection e with e; exact (Mp.ne_bk H.out.mp H.out.box) e.symm), by rw [keyed_none]; exact hm2, H.out.bg, H.out.bb⟩)
  have G2 := Lib.hid hg2
  clear hm2 hg2
  first | go_wp2 | skip
  exact bodyPost_end (results_none rfl _ _ _) rfl ⟨rfl, H2.out, G2.out⟩
end Go.Proofs.YtelbioooggnbiaaGreat
