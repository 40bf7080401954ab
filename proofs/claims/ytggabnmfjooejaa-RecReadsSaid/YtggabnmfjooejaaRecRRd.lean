/- The walks of the reference's reader of records: num, text. -/
import Derived.Test.YtggabnmfjooejaaRecBack1
import Derived.Test.YtggabnmfjooejaaOctRR
import Derived.Test.YtggabnmfjooejaaPgRDec
set_option linter.unusedVariables false
set_option linter.unusedSimpArgs false
namespace Go.Proofs.Ytggabnmfjooejaa
open Go.RowKit Go.BigFrame

theorem rdecode4_any (s : ByteArray) (w : World) :
    Calls Try.prog 39 #[.string s] w fun e w' => e = .returned (.tuple #[(Pg.dec s).v, .int .i64 (decErr s)]) ∧ Below w.heap.size w w' := by
  by_cases h : s.size = 224
  · exact rdecode_long s w h
  · have hd := dec_bad s fun hg => h hg.1
    rw [hd.1, hd.2]
    exact rdecode_short s w h

def R6 (w : World) (g : Nat) (st : Oct.Rs) : Prop := Bk w g 74 #[.string (st.getD ⟨#[]⟩), .bool st.isNone]
/-- A number, as the reference's reader tells it. -/
def sint (st : Oct.Rs) (n : Int) : Int := if 1099511627776 < (Oct.rnum st n).1 then -1 else ((Oct.rnum st n).1 : Nat)

set_option maxHeartbeats 1000000 in
theorem r6num (g : Nat) (n : Int) (st : Oct.Rs) (w : World) (h : R6 w g st) (hs : (st.getD ⟨#[]⟩).size ≤ maxLen) :
    Calls Try.prog 36 #[.pointer (some ⟨g, 0, none⟩), .int .i64 n] w fun e w' => e = .returned (.int .i64 (sint st n)) ∧ R6 w' g (rnx st n) ∧ w.grownBy w' (some g) := by
  have c := rr_num st n w hs
  have SI := Lib.hid (show sint st n = (if 1099511627776 < (Oct.rnum st n).1 then (-1 : Int) else (((Oct.rnum st n).1 : Nat) : Int)) from rfl)
  have X := Lib.hid (show rnx st n = (Oct.rnum st n).2 from rfl)
  have hlt := rnum_lt st n
  unfold rsv at c
  unfold R6 at h ⊢
  generalize sint st n = si at *
  generalize rnx st n = rx at *
  generalize Oct.rnum st n = p at *
  obtain ⟨v, st'⟩ := p
  dsimp only at c SI X hlt
  obtain rfl := X.out
  generalize st.getD ⟨#[]⟩ = x at *
  generalize st.isNone = b at *
  generalize rx.getD ⟨#[]⟩ = y at *
  generalize rx.isNone = b' at *
  have C := Lib.hid c
  have H := Lib.hid h
  have x0 := h.cell 0; have x1 := h.cell 1
  simp only [List.getElem?_toArray, List.getElem?_cons_zero, List.getElem?_cons_succ] at x0 x1
  clear c h hs
  go_enter Try.func36, Try.ntmps36
  go_wp2_with fail
  refine C.out.mono ?_
  rintro e w1 ⟨rfl, hb⟩
  have K1 := Lib.hid (H.out.kept hb)
  have G1 := Lib.hid (only_below hb (some g))
  have L1 := K1.out.lt
  have z0 := K1.out.cell 0; have z1 := K1.out.cell 1
  simp only [List.getElem?_toArray, List.getElem?_cons_zero, List.getElem?_cons_succ] at z0 z1
  have y0 := K1.out.fz 0; have y1 := K1.out.fz 1
  have K2 := Lib.hid (show Bk (((w1.setCell ⟨g, 0, none⟩ (.string y)).setCell ⟨g, 1, none⟩ (.bool b')).alloc (.cells #[.string y, .bool b'] 72)) g 74 #[.string y, .bool b'] from ((K1.out.set 0 _).set 1 _).alloc _)
  have G2 := Lib.hid (only_alloc (only_set (only_set G1.out 0 (.string y)) 1 (.bool b')) (.cells #[.string y, .bool b'] 72))
  clear x0 x1 hb
  by_cases hv : (1099511627776 : Int) < (v : Int)
  · have E := Lib.hid (show si = -1 by rw [SI.out]; exact if_pos (by omega))
    go_wp2
    go_ret
    exact ⟨by rw [E.out]; rfl, K2.out, G2.out⟩
  · have E := Lib.hid (show si = (v : Int) by rw [SI.out]; exact if_neg (by omega))
    go_wp2
    go_ret
    exact ⟨by rw [E.out]; rfl, K2.out, G2.out⟩

set_option maxHeartbeats 1000000 in
theorem r6text (g : Nat) (st : Oct.Rs) (w : World) (h : R6 w g st) (hs : (st.getD ⟨#[]⟩).size ≤ maxLen) :
    Calls Try.prog 37 #[.pointer (some ⟨g, 0, none⟩)] w fun e w' => e = .returned (.string (Oct.rtext st).1) ∧ R6 w' g (Oct.rtext st).2 ∧ w.grownBy w' (some g) := by
  have c := rr_text st w hs
  unfold rsv at c
  unfold R6 at h ⊢
  generalize Oct.rtext st = p at *
  obtain ⟨v, st'⟩ := p
  dsimp only at c ⊢
  generalize st.getD ⟨#[]⟩ = x at *
  generalize st.isNone = b at *
  generalize st'.getD ⟨#[]⟩ = y at *
  generalize st'.isNone = b' at *
  have C := Lib.hid c
  have H := Lib.hid h
  have x0 := h.cell 0; have x1 := h.cell 1
  simp only [List.getElem?_toArray, List.getElem?_cons_zero, List.getElem?_cons_succ] at x0 x1
  clear c h hs
  go_enter Try.func37, Try.ntmps37
  go_wp2_with fail
  refine C.out.mono ?_
  rintro e w1 ⟨rfl, hb⟩
  have K1 := Lib.hid (H.out.kept hb)
  have G1 := Lib.hid (only_below hb (some g))
  have L1 := K1.out.lt
  have z0 := K1.out.cell 0; have z1 := K1.out.cell 1
  simp only [List.getElem?_toArray, List.getElem?_cons_zero, List.getElem?_cons_succ] at z0 z1
  have y0 := K1.out.fz 0; have y1 := K1.out.fz 1
  have K2 := Lib.hid (show Bk (((w1.setCell ⟨g, 0, none⟩ (.string y)).setCell ⟨g, 1, none⟩ (.bool b')).alloc (.cells #[.string y, .bool b'] 72)) g 74 #[.string y, .bool b'] from ((K1.out.set 0 _).set 1 _).alloc _)
  have G2 := Lib.hid (only_alloc (only_set (only_set G1.out 0 (.string y)) 1 (.bool b')) (.cells #[.string y, .bool b'] 72))
  clear x0 x1 hb
  go_wp2
  go_ret
  exact ⟨rfl, K2.out, G2.out⟩
end Go.Proofs.Ytggabnmfjooejaa
