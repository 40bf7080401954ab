/- RecSizes, for a record that came in. -/
import Derived.Test.YtggabnmfjooejaaRecAwake
import Derived.Test.YtggabnmfjooejaaRecRead
set_option linter.unusedVariables false
set_option linter.unusedSimpArgs false
namespace Go.Proofs.Ytggabnmfjooejaa
open Go.RowKit Go.BigFrame

set_option maxRecDepth 100000 in
set_option maxHeartbeats 4000000 in
theorem walk_RecSizes (v : Value) (q : Rcv) (w : World) (h : IsRec w v q) :
    Calls Try.prog 6 #[v] w fun e w' => e = .returned (.bool true) ∧ Below w.heap.size w w' := by
  obtain ⟨r, vi, vl⟩ := q
  obtain ⟨hv, hI, hL, hk, hd, hbd, hbu, hbi, hbl⟩ := h
  dsimp only at hv hI hL hk hd hbd hbu
  clear hbi hbl hbd hbu
  subst hv
  have CA := Lib.hid awake_any
  obtain ⟨ai, ci, rfl, hmi, hI⟩ := hI
  obtain ⟨al, cl, rfl, hml, hL⟩ := hL
  have B0 := Lib.hid ((Below.refl w.heap.size w).alloc (Nat.le_refl _) (.cells (r.cs (.slice ai r.ni ci) (.slice al r.nl cl)) 29))
  have K0 := Lib.hid (Bk.new w 29 (r.cs (.slice ai r.ni ci) (.slice al r.nl cl)))
  have HI := Lib.hid (show ImAt w w.heap.size (.slice ai r.ni ci) r.ni r.im from ⟨ai, ci, rfl, hmi, hI⟩)
  have HL := Lib.hid (show AlAt w w.heap.size (.slice al r.nl cl) r.nl r.al from ⟨al, cl, rfl, hml, hL⟩)
  have hsz := Lib.hid (fun (h : r.ok) => r.bytes_size h.2.2.2.1)
  clear hI hL
  generalize hcs : r.cs (.slice ai r.ni ci) (.slice al r.nl cl) = cs at *
  have hcs' := hcs
  have HCS := Lib.hid hcs'
  unfold Rc.cs at hcs
  subst hcs
  go_enter Try.func6, Try.ntmps6
  go_wp2_with fail
  refine (CA.out _).mono ?_
  rintro e w1 ⟨rfl, hb⟩
  have K1 := Lib.hid (K0.out.kept hb)
  have B1 := Lib.hid (below_then B0.out hb B0.out.size)
  clear hb K0 B0 CA hcs'
  go_wp2_with (refine wpList_load_part 29 _ rfl (by first | rfl | kernel_rfl) w.heap.size 0 _ rfl (rc_load (by have := K1.out; rw [← HCS.out] at this; exact this)) ?_)
  refine (lencode_any r _ _ w1 ((HI.out.below B1.out (Nat.le_refl _)).mono B1.out.size) ((HL.out.below B1.out (Nat.le_refl _)).mono B1.out.size)).mono ?_
  rintro e w2 ⟨⟨rfl, hok⟩ | ⟨rfl, hno⟩, hb⟩
  · have K2 := Lib.hid (K1.out.kept hb)
    have B2 := Lib.hid (below_then B1.out hb B1.out.size)
    have hz := hsz.out hok
    obtain ⟨_, ⟨_, _, hu⟩, ⟨hni, hnl⟩, _⟩ := hok
    have hk8 := hu.2.2.2.2.2.2.2.1
    have hd34 := hu.2.2.2.2.2.2.2.2.2.2
    have x8 := K2.out.cell 8; have x10 := K2.out.cell 10; have x11 := K2.out.cell 11; have x12 := K2.out.cell 12
    simp only [List.getElem?_toArray, List.getElem?_cons_zero, List.getElem?_cons_succ] at x8 x10 x11 x12
    have hzi : (r.bytes.size : Int) = 37 + (r.u.key.size : Int) + (r.u.bd.size : Int) + 228 * (r.ni : Int) + 20 * (r.nl : Int) := by omega
    generalize r.bytes = S at *
    clear hb K1 B1 hu hz
    go_wp2
    go_ret
    exact ⟨rfl, B2.out⟩
  · have K2 := Lib.hid (K1.out.kept hb)
    have B2 := Lib.hid (below_then B1.out hb B1.out.size)
    have HNO := Lib.hid hno
    clear hb K1 hno
    go_wp2_with (refine wpList_load_part 29 _ rfl (by first | rfl | kernel_rfl) w.heap.size 0 _ rfl (rc_load (by have := K2.out; rw [← HCS.out] at this; exact this)) ?_)
    refine (lcheck_any r _ _ w2 ((HI.out.below B2.out (Nat.le_refl _)).mono B2.out.size) ((HL.out.below B2.out (Nat.le_refl _)).mono B2.out.size)).mono ?_
    rintro e w3 ⟨⟨rfl, hok⟩ | ⟨rfl, _⟩, hb⟩
    · exact absurd hok HNO.out
    · have B3 := Lib.hid (below_then B2.out hb B2.out.size)
      clear hb
      go_wp2
      go_ret
      exact ⟨rfl, B3.out⟩
end Go.Proofs.Ytggabnmfjooejaa
