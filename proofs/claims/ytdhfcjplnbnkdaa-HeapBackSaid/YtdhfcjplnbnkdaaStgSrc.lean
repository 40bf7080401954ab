/- A stage over a source: source, Get, Set. -/
import Derived.Test.YtdhfcjplnbnkdaaStgGet
import Derived.Test.YtdhfcjplnbnkdaaMap
import Derived.Deep.DeepCutAuto
set_option linter.unusedVariables false
set_option linter.unusedSimpArgs false
namespace Go.Proofs.Ytdhfcjplnbnkdaa
open Go.RowKit Go.Maps

/-- What a stage holds, by the model's keys. -/
def keyed (f : Int → Option Pg) : Lit → Option Value
  | .int .i64 i => (f i).map fun p => .agg p.cs
  | _ => none
def setPg (f : Int → Option Pg) (id : Int) (p : Pg) : Int → Option Pg := fun i => if i = id then some p else f i
theorem keyed_put (f : Int → Option Pg) (id : Int) (p : Pg) : fput (keyed f) (.int .i64 id) (.agg p.cs) = keyed (setPg f id p) := by
  funext x
  unfold fput
  cases x with
  | int q i =>
    cases q <;> simp [Lit.sameKey, keyed, setPg] <;> split <;> simp_all
  | _ => simp [Lit.sameKey, keyed]
theorem keyed_none : keyed (fun _ => none) = fun _ => none := by
  funext x
  cases x with
  | int q i => cases q <;> rfl
  | _ => rfl
theorem below_row {B : Nat} {a w : World} {g : Nat} {cs : Array Value} (h : Below B a w) (hg : B ≤ g) : Below B a (w.setRow g cs) :=
  ⟨h.os, h.tape, h.output, by have := h.size; simpa [World.setRow] using this, fun i hi => (setRow_other w g i cs (by omega)).trans (h.block i hi)⟩
/-- A stage over a source, in block g, its pages in block b. -/
structure Sg (w : World) (B g b m : Nat) (sv : Value) (f : Int → Option Pg) : Prop where
  box : Bk w g 78 #[sv, .map (some b)]
  mp : Mp w Try.prog 3 b m (keyed f)
  bg : B ≤ g
  bb : B ≤ b
theorem Sg.kept {w w' : World} {B g b m : Nat} {sv : Value} {f : Int → Option Pg} (h : Sg w B g b m sv f) (hb : Below w.heap.size w w') : Sg w' B g b m sv f := ⟨h.box.kept hb, h.mp.kept hb, h.bg, h.bb⟩
set_option maxRecDepth 100000 in
set_option maxHeartbeats 1000000 in
theorem source_shelf {w : World} {B g b m : Nat} {v : Addr} {f : Int → Option Pg} (h : Sg w B g b m (.iface 24 (.pointer (some v))) f) (id : Int) (r : Pg × Int)
    (hg : ∀ w', Below w.heap.size w w' → Calls Try.prog 110 #[.pointer (some v), .int .i64 id] w' (PgPost r w')) :
    Calls Try.prog 43 #[.pointer (some ⟨g, 0, none⟩), .int .i64 id] w (PgPost (if r.2 = 0 then r else (Pg.zero, r.2)) w) := by
  have H := Lib.hid (h.kept ((Below.refl w.heap.size w).alloc (Nat.le_refl _) (.cells Pg.zero.cs 40)))
  have CG := Lib.hid (hg _ ((Below.refl w.heap.size w).alloc (Nat.le_refl _) (.cells Pg.zero.cs 40)))
  have Z := Lib.hid (Bk.new w 40 Pg.zero.cs)
  have B0 := Lib.hid ((Below.refl w.heap.size w).alloc (Nat.le_refl _) (.cells Pg.zero.cs 40))
  clear h hg
  obtain ⟨p, er⟩ := r
  obtain ⟨res, hres⟩ : ∃ res, res = (if er = 0 then (p, er) else (Pg.zero, er)) := ⟨_, rfl⟩
  dsimp only
  rw [← hres]
  have HR := Lib.hid hres
  clear hres
  go_enter Try.func43, Try.ntmps43
  go_upto_region 1 with fail
  change Code.wp _ _ _ _ (w.alloc (.cells Pg.zero.cs 40))
  generalize w.alloc (.cells Pg.zero.cs 40) = w0 at *
  obtain ⟨G, hG⟩ : ∃ G, G = w.heap.size := ⟨_, rfl⟩
  rw [← hG] at Z ⊢
  have HG := Lib.hid hG
  clear hG
  have hm : ∀ w : World, (method 271 24 (.pointer (some v)) "Get").run Try.prog w = .ok (110, .pointer (some v)) w := fun w => by kernel_rfl
  have c0 : w0.cell? ⟨g, 0, none⟩ = some (.iface 24 (.pointer (some v))) := H.out.box.cell 0
  go_wp2_with fail
  refine CG.out.mono ?_
  rintro e w1 ⟨rfl, hb⟩
  have Z1 := Lib.hid (Z.out.kept hb)
  have B1 := Lib.hid (below_then B0.out hb B0.out.size)
  have GL := Lib.hid (show w.heap.size ≤ G from Nat.le_of_eq HG.out.symm)
  clear hb CG Z B0 H c0
  by_cases he : er = 0
  · subst he
    have hr := HR.out
    rw [if_pos rfl] at hr
    subst hr
    clear HR
    go_wp2_with (first | (refine store_page_new rfl _ _ rfl p rfl rfl ?_) | (refine load_page rfl _ rfl w1.heap.size p rfl (Bk.new w1 _ _) ?_) | (refine store_page rfl _ _ rfl G p Pg.zero rfl rfl (Z1.out.alloc _) ?_))
    refine bodyPost_ret (page_res rfl _ _ G p.cs (row_bk (Z1.out.alloc _)) rfl rfl) rfl ?_
    exact ⟨rfl, below_row ((B1.out).alloc B1.out.size _) GL.out⟩
  · have hne : (er != 0) = true := by simp [he]
    have hr := HR.out
    rw [if_neg he] at hr
    subst hr
    clear HR he
    go_wp2_with (first | (refine store_page_new rfl _ _ rfl p rfl rfl ?_) | (refine store_page rfl _ _ rfl G Pg.zero Pg.zero rfl rfl (Z1.out.alloc _) ?_))
    refine bodyPost_ret (page_res rfl _ _ G Pg.zero.cs (row_bk (Z1.out.alloc _)) rfl rfl) rfl ?_
    exact ⟨rfl, below_row ((B1.out).alloc B1.out.size _) GL.out⟩
end Go.Proofs.Ytdhfcjplnbnkdaa
