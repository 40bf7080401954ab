/- A stage's Get, Set, Drop, New. -/
import Derived.Test.YtdhfcjplnbnkdaaStgSrc
set_option linter.unusedVariables false
set_option linter.unusedSimpArgs false
namespace Go.Proofs.Ytdhfcjplnbnkdaa
open Go.RowKit Go.Maps

def norm (r : Pg × Int) : Pg × Int := if r.2 = 0 then r else (Pg.zero, r.2)
def stGet (f : Int → Option Pg) (r : Pg × Int) (id : Int) : Pg × Int := match f id with | some p => (p, 0) | none => r
theorem lit64 {id : Int} (h1 : -9223372036854775808 ≤ id) (h2 : id ≤ 9223372036854775807) : (Lit.int .i64 id).wf = true := by
  simp [Lit.wf, IntKind.min, IntKind.max, IntKind.signed, IntKind.bits]; omega
theorem zeroV (w : World) : (zeroValue 40).run Try.prog w = .ok (.agg Pg.zero.cs) w := by kernel_rfl
set_option maxRecDepth 100000 in
set_option maxHeartbeats 2000000 in
theorem stget_any {w : World} {B g b m : Nat} {sv : Value} {f : Int → Option Pg} (h : Sg w B g b m sv f) (id : Int) (h1 : -9223372036854775808 ≤ id) (h2 : id ≤ 9223372036854775807) (r : Pg × Int)
    (hs : ∀ w', Below w.heap.size w w' → Calls Try.prog 43 #[.pointer (some ⟨g, 0, none⟩), .int .i64 id] w' (PgPost r w')) :
    Calls Try.prog 22 #[.pointer (some ⟨g, 0, none⟩), .int .i64 id] w (PgPost (stGet f r id) w) := by
  have K := int_keyed (P := Try.prog) Try.underlying3
  have KY := keyOf_int_mk (P := Try.prog) Try.underlying3 (lit64 h1 h2)
  have H := Lib.hid (h.kept ((Below.refl w.heap.size w).alloc (Nat.le_refl _) (.cells Pg.zero.cs 40)))
  have Z := Lib.hid (Bk.new w 40 Pg.zero.cs)
  have B0 := Lib.hid ((Below.refl w.heap.size w).alloc (Nat.le_refl _) (.cells Pg.zero.cs 40))
  have CS := Lib.hid hs
  clear h hs
  obtain ⟨res, hres⟩ : ∃ res, res = stGet f r id := ⟨_, rfl⟩
  rw [← hres]
  have HR := Lib.hid hres
  clear hres
  go_enter Try.func22, Try.ntmps22
  go_upto_region 1 with fail
  change Code.wp _ _ _ _ (w.alloc (.cells Pg.zero.cs 40))
  generalize w.alloc (.cells Pg.zero.cs 40) = w0 at *
  obtain ⟨G, hG⟩ : ∃ G, G = w.heap.size := ⟨_, rfl⟩
  rw [← hG] at Z ⊢
  have GL := Lib.hid (show w.heap.size ≤ G from Nat.le_of_eq hG.symm)
  clear hG
  have c1 : w0.cell? ⟨g, 1, none⟩ = some (.map (some b)) := H.out.box.cell 1
  go_upto_region 3 with fail
  cases hf : f id with
  | some p =>
    have hk : keyed f (.int .i64 id) = some (.agg p.cs) := by show (f id).map (fun p => Value.agg p.cs) = _; rw [hf]; rfl
    have hr := HR.out
    unfold stGet at hr
    rw [hf] at hr
    subst hr
    have hok : (some (Value.agg p.cs)).isSome = true := rfl
    go_wp2_with (first | (at_lookup; refine wpList_mp_look _ rfl _ _ 76 rfl 3 40 K Try.underlying76 (zeroV _) b m (keyed f) rfl H.out.mp _ _ rfl KY ?_; rw [hk]; simp only [Option.getD_some, Option.isSome_some]) | (refine store_page_new rfl _ _ rfl p rfl rfl ?_) | (refine load_page rfl _ rfl w0.heap.size p rfl (Bk.new w0 _ _) ?_) | (refine store_page rfl _ _ rfl G p Pg.zero rfl rfl (Z.out.alloc _) ?_))
    refine bodyPost_ret (page_res rfl _ _ G p.cs (row_bk (Z.out.alloc _)) rfl rfl) rfl ?_
    exact ⟨rfl, below_row ((B0.out).alloc B0.out.size _) GL.out⟩
  | none =>
    have hk : keyed f (.int .i64 id) = none := by show (f id).map (fun p => Value.agg p.cs) = _; rw [hf]; rfl
    have hr := HR.out
    unfold stGet at hr
    rw [hf] at hr
    subst hr
    obtain ⟨p, er⟩ := res
    go_wp2_with (first | (at_lookup; refine wpList_mp_look _ rfl _ _ 76 rfl 3 40 K Try.underlying76 (zeroV _) b m (keyed f) rfl H.out.mp _ _ rfl KY ?_; rw [hk]; simp only [Option.getD_none, Option.isSome_none]) | (refine store_page_new rfl _ _ rfl Pg.zero rfl rfl ?_))
    refine (CS.out _ (B0.out.alloc B0.out.size _)).mono ?_
    rintro e w1 ⟨rfl, hb⟩
    have Z1 := Lib.hid ((Z.out.alloc _).kept hb)
    have B1 := Lib.hid (below_then (B0.out.alloc B0.out.size _) hb (Nat.le_trans B0.out.size (by simp)))
    clear hb CS Z B0 H c1
    go_wp2_with (refine store_page rfl _ _ rfl G p Pg.zero rfl rfl Z1.out ?_)
    refine bodyPost_ret (page_res rfl _ _ G p.cs (row_bk Z1.out) rfl rfl) rfl ?_
    exact ⟨rfl, below_row B1.out GL.out⟩
def stSet (f : Int → Option Pg) (id : Int) (p : Pg) : (Int → Option Pg) × Int := if 0 ≤ id ∧ id < 1024 ∧ p.ok then (setPg f id p, 0) else (f, 1)
set_option maxRecDepth 100000 in
set_option maxHeartbeats 2000000 in
theorem stset_no {w : World} {g : Nat} (id : Int) (p : Pg) (hx : ¬ (0 ≤ id ∧ id < 1024 ∧ p.ok)) :
    Calls Try.prog 25 #[.pointer (some ⟨g, 0, none⟩), .int .i64 id, .agg p.cs] w fun e w' => e = .returned (.int .i64 1) ∧ Below w.heap.size w w' := by
  have Z := Lib.hid (Bk.new w 40 p.cs)
  have B0 := Lib.hid ((Below.refl w.heap.size w).alloc (Nat.le_refl _) (.cells p.cs 40))
  have CK := Lib.hid (check_any p (w.alloc (.cells p.cs 40)))
  unfold Pg.v at CK
  go_enter Try.func25, Try.ntmps25
  go_upto_region 1 with fail
  generalize w.alloc (.cells p.cs 40) = w0 at *
  obtain ⟨G, hG⟩ : ∃ G, G = w.heap.size := ⟨_, rfl⟩
  rw [← hG] at Z ⊢
  clear hG
  by_cases h1 : id < 0
  · go_wp2
    go_ret
    exact ⟨rfl, B0.out⟩
  by_cases h2 : (1024 : Int) ≤ id
  · go_wp2
    go_ret
    exact ⟨rfl, B0.out⟩
  have he : p.err = 1 := Pg.err_no fun h => hx ⟨by omega, by omega, h⟩
  rw [he] at CK
  go_wp2_with (refine load_page_if _ rfl (by first | rfl | kernel_rfl) G p rfl Z.out ?_)
  refine CK.out.mono ?_
  rintro e w1 ⟨rfl, hb⟩
  have B1 := Lib.hid (below_then B0.out hb B0.out.size)
  clear hb
  go_wp2
  go_ret
  exact ⟨rfl, B1.out⟩
def SetPost (w : World) (B g b m : Nat) (sv : Value) (f : Int → Option Pg) (e : Ending) (w' : World) : Prop := e = .returned (.int .i64 0) ∧ Sg w' B g b m sv f ∧ w.grownBy w' (some b)
set_option maxRecDepth 100000 in
set_option maxHeartbeats 2000000 in
theorem stset_yes {w : World} {B g b m : Nat} {sv : Value} {f : Int → Option Pg} (h : Sg w B g b m sv f) (id : Int) (p : Pg) (hx : 0 ≤ id ∧ id < 1024 ∧ p.ok) (hm : m < maxLen) :
    Calls Try.prog 25 #[.pointer (some ⟨g, 0, none⟩), .int .i64 id, .agg p.cs] w (SetPost w B g b (m + 1) sv (setPg f id p)) := by
  have K := int_keyed (P := Try.prog) Try.underlying3
  have KY := keyOf_int_mk (P := Try.prog) Try.underlying3 (lit64 (id := id) (by omega) (by omega))
  have H := Lib.hid (h.kept ((Below.refl w.heap.size w).alloc (Nat.le_refl _) (.cells p.cs 40)))
  have Z := Lib.hid (Bk.new w 40 p.cs)
  have B0 := Lib.hid ((Below.refl w.heap.size w).alloc (Nat.le_refl _) (.cells p.cs 40))
  have CK := Lib.hid (check_any p (w.alloc (.cells p.cs 40)))
  have he : p.err = 0 := Pg.err_ok hx.2.2
  rw [he] at CK
  unfold Pg.v at CK
  have h1 : ¬ id < 0 := by omega
  have h2 : ¬ (1024 : Int) ≤ id := by omega
  have KP := Lib.hid (keyed_put f id p)
  have MM := Lib.hid hm
  clear h hx he
  go_enter Try.func25, Try.ntmps25
  go_upto_region 1 with fail
  generalize w.alloc (.cells p.cs 40) = w0 at *
  obtain ⟨G, hG⟩ : ∃ G, G = w.heap.size := ⟨_, rfl⟩
  rw [← hG] at Z ⊢
  clear hG
  go_wp2_with (refine load_page_if _ rfl (by first | rfl | kernel_rfl) G p rfl Z.out ?_)
  refine CK.out.mono ?_
  rintro e w1 ⟨rfl, hb⟩
  have H1 := Lib.hid (H.out.kept hb)
  have Z1 := Lib.hid (Z.out.kept hb)
  have B1 := Lib.hid (below_then B0.out hb B0.out.size)
  clear hb CK B0 H Z h1 h2
  have c1 : w1.cell? ⟨g, 1, none⟩ = some (.map (some b)) := H1.out.box.cell 1
  go_upto_region 3 with fail
  refine wp_region_still_tail 6 (by kernel_rfl) (by kernel_rfl) ?_
  simp only [List.take_succ_cons, List.take_zero, List.drop_succ_cons, List.drop_zero]
  still_step
  still_step
  still_step
  still_step
  still_step
  refine still_page rfl _ rfl G p rfl Z1.out.drew ?_
  refine wpStill_nil ?_
  change wpList _ _ _ _ _ w1.drew
  have KZ := KP.out
  go_wp2_with (at_mapUpdate; refine wpList_mp_store _ rfl _ _ _ 76 rfl 3 40 K Try.underlying76 b m (keyed f) rfl H1.out.mp.drew MM.out _ (.agg p.cs) _ rfl rfl KY ?_; intro w2 hm2 hg2; rw [KZ] at hm2)
  have H2 : SetPost w B g b (m + 1) sv (setPg f id p) (.returned (.int .i64 0)) w2 := ⟨rfl, ⟨H1.out.box.drew.grown hg2 (fun e => by injection e with e; exact hm2.ne_bk (H1.out.box.drew.grown hg2 (fun e2 => (Mp.ne_bk H1.out.mp H1.out.box) (by injection e2 with e2; exact e2.symm))) e.symm), hm2, H1.out.bg, H1.out.bb⟩, only_trans (only_below B1.out (some b)) (only_trans (only_drew (only_below (Below.refl _ _) (some b))) hg2)⟩
  have H3 := Lib.hid H2
  clear H2 hm2 hg2
  go_wp2
  go_ret
  exact H3.out
end Go.Proofs.Ytdhfcjplnbnkdaa
