/- The shelf's Get. -/
import Derived.Test.YtdhfcjplnbnkdaaStgShelf
set_option linter.unusedVariables false
set_option linter.unusedSimpArgs false
namespace Go.Proofs.Ytdhfcjplnbnkdaa
open Go.RowKit

def PgPost (r : Pg × Int) (w : World) (e : Ending) (w' : World) : Prop := e = .returned (.tuple #[.agg r.1.cs, .int .i64 r.2]) ∧ Below w.heap.size w w'
set_option maxRecDepth 100000 in
set_option maxHeartbeats 2000000 in
theorem shget_any {w : World} {B g r : Nat} {ps : List Pg} (h : Sh w B g r ps) (id : Int) :
    Calls Try.prog 110 #[.pointer (some ⟨g, 0, none⟩), .int .i64 id] w (PgPost (getPg ps id) w) := by
  have H0 := Lib.hid (h.kept ((Below.refl w.heap.size w).alloc (Nat.le_refl _) (.cells Pg.zero.cs 40)))
  have CH := Lib.hid (has_any H0.out id)
  have NB := Lib.hid (Bk.new w 40 Pg.zero.cs)
  unfold getPg
  by_cases hh : hasId ps.length id
  · rw [if_pos hh]
    have hd : decide (hasId ps.length id) = true := decide_eq_true hh
    rw [hd] at CH
    obtain ⟨k, rfl⟩ : ∃ k : Nat, id = k := ⟨id.toNat, by have := hh.1; omega⟩
    have hk : k < ps.length := by have := hh.2; omega
    obtain ⟨p, hp⟩ : ∃ p, ps[k]? = some p := ⟨_, List.getElem?_eq_getElem hk⟩
    have hg : ps.getD k Pg.zero = p := by rw [List.getD_eq_getElem?_getD, hp]; rfl
    rw [Int.toNat_natCast, hg]
    have c0 : (w.alloc (.cells Pg.zero.cs 40)).cell? ⟨g, 0, none⟩ = some (.slice (some ⟨r, 0, none⟩) ps.length ps.length) := H0.out.box.cell 0
    have hki : (k : Int) < (ps.length : Int) := by omega
    clear hh hd h hg
    go_enter Try.func110, Try.ntmps110
    go_wp2_with fail
    refine CH.out.mono ?_
    rintro e w1 ⟨rfl, rfl⟩
    go_wp2_with (first | (refine load_page_at rfl _ rfl r ps k p hp rfl H0.out.row ?_) | (refine store_page_new rfl _ _ rfl p rfl rfl ?_))
    refine bodyPost_ret (page_res rfl _ _ w.heap.size p.cs (Bk.new w _ _) rfl rfl) rfl ?_
    exact ⟨rfl, (Below.refl _ _).alloc (Nat.le_refl _) _⟩
  · rw [if_neg hh]
    have hd : decide (hasId ps.length id) = false := decide_eq_false hh
    rw [hd] at CH
    clear hh hd h
    go_enter Try.func110, Try.ntmps110
    go_wp2_with fail
    refine CH.out.mono ?_
    rintro e w1 ⟨rfl, rfl⟩
    go_wp2_with (refine store_page_new rfl _ _ rfl Pg.zero rfl rfl ?_)
    refine bodyPost_ret (page_res rfl _ _ w.heap.size Pg.zero.cs (Bk.new w _ _) rfl rfl) rfl ?_
    exact ⟨rfl, (Below.refl _ _).alloc (Nat.le_refl _) _⟩
end Go.Proofs.Ytdhfcjplnbnkdaa
