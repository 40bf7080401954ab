/- The law's own 'land': what a stage holds goes to the shelf, or falls. -/
import Derived.Test.YteccaickdjbndaaSpcAwake
set_option linter.unusedVariables false
set_option linter.unusedSimpArgs false
namespace Go.Proofs.Yteccaickdjbndaa
open Go.RowKit Go.Maps

theorem SV.r_ge {w : World} {B g b gs r N M : Nat} {und pg : Nat → Pg} (h : SV w B g b gs r N M und pg) : B ≤ r := by
  obtain ⟨m, ps, l, h0, _⟩ := h.ex
  exact h0.sh.br
def landed (er : Int) (und pg : Nat → Pg) : Nat → Pg := if er = 0 then pg else und
/-- All blocks that stood stand, but for two. -/
def Oth (w w' : World) (b r : Nat) : Prop := w.heap.size ≤ w'.heap.size ∧ ∀ q, q < w.heap.size → q ≠ b → q ≠ r → w'.heap[q]? = w.heap[q]?
theorem Oth.below {w w1 : World} {b r : Nat} (hb : Below w.heap.size w w1) : Oth w w1 b r := ⟨hb.size, fun q hq _ _ => hb.block q hq⟩
theorem Oth.grown {w w1 w2 : World} {b r k : Nat} (h : Oth w w1 b r) (hg : w1.grownBy w2 (some k)) (hk : k = b ∨ k = r) : Oth w w2 b r :=
  ⟨Nat.le_trans h.1 hg.size, fun q hq h1 h2 => (hg.block q (Nat.lt_of_lt_of_le hq h.1) (fun e => by injection e with e; rcases hk with hk | hk <;> omega)).trans (h.2 q hq h1 h2)⟩
set_option maxRecDepth 100000 in
set_option maxHeartbeats 4000000 in
theorem land_full {w w0 : World} {g b gs r N M : Nat} {und pg : Nat → Pg} (h : SV w w0.heap.size g b gs r N M und pg) (hb : Below w0.heap.size w0 w) (er : Int) :
    Calls Try.prog 11 #[.pointer (some ⟨gs, 0, none⟩), .pointer (some ⟨g, 0, none⟩), .int .i64 er] w fun e w' => e = .returned (.tuple #[]) ∧ SV w' w0.heap.size g b gs r N 0 (landed er und pg) (landed er und pg) ∧ Below w0.heap.size w0 w' ∧ Oth w w' b r := by
  have CI := Lib.hid (sv_images h)
  have B0 := Lib.hid hb
  have BB := Lib.hid (show w0.heap.size ≤ b ∧ w0.heap.size ≤ r from ⟨h.b_ge, h.r_ge⟩)
  have SZ := Lib.hid hb.size
  clear h hb
  go_enter Try.func11, Try.ntmps11
  go_wp2_with fail
  refine CI.out.mono ?_
  rintro e w1 ⟨v, rfl, hl⟩
  have L1 := Lib.hid hl
  obtain ⟨m, ps, l, s1, s2, s3, s4, s5, s6, s7, hbb⟩ := hl
  have V1 := Lib.hid (show SV w1 w0.heap.size g b gs r N M und pg from ⟨m, ps, l, s1, s2, s3, s4, s5, s6⟩)
  have B1 := Lib.hid (below_then B0.out hbb B0.out.size)
  have T1 := Lib.hid (Oth.below (b := b) (r := r) hbb)
  clear s1 s2 s3 s4 s5 s6 s7 hbb CI B0 m ps l
  by_cases he : er = 0
  · subst he
    have CA := Lib.hid (sv_apply L1.out)
    go_wp2_with fail
    refine CA.out.mono ?_
    rintro e w2 ⟨rfl, hs, hg⟩
    have B2 := Lib.hid (bl_grow B1.out hg (fun k hk => by cases hk; exact BB.out.2) B1.out.size)
    have T2 := Lib.hid (T1.out.grown hg (.inr rfl))
    have CD := Lib.hid (sv_drop hs)
    clear hs hg CA V1 B1 L1
    go_wp2_with fail
    refine CD.out.mono ?_
    rintro e w3 ⟨rfl, hs, hg⟩
    have B3 := Lib.hid (bl_grow B2.out hg (fun k hk => by cases hk; exact BB.out.1) B2.out.size)
    have T3 := Lib.hid (T2.out.grown hg (.inl rfl))
    have V3 := Lib.hid hs
    clear hs hg CD B2
    go_wp2
    refine bodyPost_end (results_none rfl _ _ _) rfl ⟨rfl, V3.out, B3.out, T3.out⟩
  · have heb : (er == 0) = false := by simp [he]
    have CD := Lib.hid (sv_drop V1.out)
    have LE := Lib.hid (show landed er und pg = und from if_neg he)
    clear V1 L1 he
    go_wp2_with fail
    refine CD.out.mono ?_
    rintro e w3 ⟨rfl, hs, hg⟩
    have B3 := Lib.hid (bl_grow B1.out hg (fun k hk => by cases hk; exact BB.out.1) B1.out.size)
    have T3 := Lib.hid (T1.out.grown hg (.inl rfl))
    have V3 := Lib.hid hs
    clear hs hg CD B1
    go_wp2
    refine bodyPost_end (results_none rfl _ _ _) rfl ⟨rfl, by rw [LE.out]; exact V3.out, B3.out, T3.out⟩
theorem land_any {w w0 : World} {g b gs r N M : Nat} {und pg : Nat → Pg} (h : SV w w0.heap.size g b gs r N M und pg) (hb : Below w0.heap.size w0 w) (er : Int) :
    Calls Try.prog 11 #[.pointer (some ⟨gs, 0, none⟩), .pointer (some ⟨g, 0, none⟩), .int .i64 er] w fun e w' => e = .returned (.tuple #[]) ∧ SV w' w0.heap.size g b gs r N 0 (landed er und pg) (landed er und pg) ∧ Below w0.heap.size w0 w' :=
  (land_full h hb er).mono fun e w' ⟨a, c, d, _⟩ => ⟨a, c, d⟩
end Go.Proofs.Yteccaickdjbndaa
