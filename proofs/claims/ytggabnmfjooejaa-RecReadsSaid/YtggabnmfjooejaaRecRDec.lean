/- The walk of the reference's Decode of a record. -/
import Derived.Test.YtggabnmfjooejaaRecRRd
set_option linter.unusedVariables false
set_option linter.unusedSimpArgs false
namespace Go.Proofs.Ytggabnmfjooejaa
open Go.RowKit Go.BigFrame

theorem sint_rint {st : Oct.Rs} {n : Int} (h : (Oct.rnum st n).1 ≤ 1099511627776) : sint st n = rint st n := by
  unfold sint rint
  rw [if_neg (by omega), IntWalk.wrap64_in _ (by omega)]
theorem rnum_k_lt (st : Oct.Rs) (k : Nat) : (Oct.rnum st k).1 < 256 ^ k := by
  cases st with
  | none => exact Nat.pow_pos (by omega)
  | some s =>
    simp only [Oct.rnum]
    split
    · exact Nat.pow_pos (by omega)
    · simp only [Oct.nval]
      split
      · have h := Oct.sval_lt (Oct.rbytes (some s) k).1
        have hz : (Oct.rbytes (some s) k).1.size ≤ k := by
          simp only [Oct.rbytes]
          split
          · exact Nat.zero_le _
          · rw [Int.toNat_natCast, ByteArray.size_extract]; omega
        exact Nat.lt_of_lt_of_le h (Nat.pow_le_pow_right (by omega) hz)
      · exact Nat.pow_pos (by omega)
theorem sint1 (st : Oct.Rs) : sint st 1 = rint st 1 := sint_rint (by have : (Oct.rnum st 1).1 < 256 ^ 1 := rnum_k_lt st 1; omega)
theorem sint4 (st : Oct.Rs) : sint st 4 = rint st 4 := sint_rint (by have : (Oct.rnum st 4).1 < 256 ^ 4 := rnum_k_lt st 4; omega)
theorem sint8 (st : Oct.Rs) : (isPl (sint st 8) ↔ isPl (rint st 8)) ∧ (isPl (sint st 8) → sint st 8 = rint st 8) := by
  by_cases h : (Oct.rnum st 8).1 ≤ 1099511627776
  · rw [sint_rint h]; exact ⟨Iff.rfl, fun _ => rfl⟩
  · have hlt := rnum_lt st 8
    have e : sint st 8 = -1 := by unfold sint; exact if_pos (by omega)
    have h1 : ¬ isPl (sint st 8) := by rw [e]; unfold isPl; omega
    have h2 : ¬ isPl (rint st 8) := by
      unfold rint wrap64 isPl
      omega
    exact ⟨⟨fun h => absurd h h1, fun h => absurd h h2⟩, fun h => absurd h h1⟩
theorem r6num1 (g : Nat) (st : Oct.Rs) (w : World) (h : R6 w g st) (hs : (st.getD ⟨#[]⟩).size ≤ maxLen) :
    Calls Try.prog 36 #[.pointer (some ⟨g, 0, none⟩), .int .i64 1] w fun e w' => e = .returned (.int .i64 (rint st 1)) ∧ R6 w' g (rnx st 1) ∧ w.grownBy w' (some g) := by
  have := r6num g 1 st w h hs
  rw [sint1] at this; exact this
theorem r6num4 (g : Nat) (st : Oct.Rs) (w : World) (h : R6 w g st) (hs : (st.getD ⟨#[]⟩).size ≤ maxLen) :
    Calls Try.prog 36 #[.pointer (some ⟨g, 0, none⟩), .int .i64 4] w fun e w' => e = .returned (.int .i64 (rint st 4)) ∧ R6 w' g (rnx st 4) ∧ w.grownBy w' (some g) := by
  have := r6num g 4 st w h hs
  rw [sint4] at this; exact this
theorem r6num8 (g : Nat) (st : Oct.Rs) (w : World) (h : R6 w g st) (hs : (st.getD ⟨#[]⟩).size ≤ maxLen) :
    Calls Try.prog 36 #[.pointer (some ⟨g, 0, none⟩), .int .i64 8] w fun e w' => e = .returned (.int .i64 (sint st 8)) ∧ R6 w' g (rnx st 8) ∧ w.grownBy w' (some g) := r6num g 8 st w h hs

/-- The record as the reference reads it. -/
def sal (s : Oct.Rs) (i : Nat) : Al := ⟨rint (lst s i) 4, sint (rnx (lst s i) 4) 8, sint (rnx (rnx (lst s i) 4) 8) 8⟩
def Rc.sf (S : ByteArray) : Rc := ⟨(rrec (some S)).1.k, (rrec (some S)).1.x, sint (rnx (rnx (some S) 1) 4) 8, sint (rnx (rnx (rnx (some S) 1) 4) 8) 8, (rrec (some S)).1.u, dn S, iim (d7 S), dm S, sal (d9 S), (rrec (some S)).1.fr⟩
theorem of_pv8 (S : ByteArray) : (Rc.of S).pv = rint (rnx (rnx (some S) 1) 4) 8 := by rw [of_pv]; unfold rrec; dsimp only
theorem of_nx8 (S : ByteArray) : (Rc.of S).nx = rint (rnx (rnx (rnx (some S) 1) 4) 8) 8 := by rw [of_nx]; unfold rrec; dsimp only
theorem al_ok_iff (s : Oct.Rs) (i : Nat) : (sal s i).ok ↔ (lal s i).ok := by
  unfold Al.ok sal lal
  dsimp only
  rw [(sint8 _).1, (sint8 _).1]
theorem al_eq (s : Oct.Rs) (i : Nat) (h : (sal s i).ok) : sal s i = lal s i := by
  unfold Al.ok sal at h
  dsimp only at h
  unfold sal lal
  rw [(sint8 _).2 h.2.1, (sint8 _).2 h.2.2]
theorem sf_ok (S : ByteArray) : (Rc.sf S).ok ↔ (Rc.of S).ok := by
  have h1 : isPl (Rc.sf S).pv ↔ isPl (Rc.of S).pv := by rw [of_pv8]; exact (sint8 _).1
  have h2 : isPl (Rc.sf S).nx ↔ isPl (Rc.of S).nx := by rw [of_nx8]; exact (sint8 _).1
  have h3 : (∀ i, i < (Rc.sf S).nl → ((Rc.sf S).al i).ok) ↔ ∀ i, i < (Rc.of S).nl → ((Rc.of S).al i).ok :=
    ⟨fun h i hi => (al_ok_iff _ _).1 (h i hi), fun h i hi => (al_ok_iff _ _).2 (h i hi)⟩
  unfold Rc.ok
  rw [h1, h2, h3]
  exact Iff.rfl
theorem sf_same (S : ByteArray) (h : (Rc.sf S).ok) : (Rc.sf S).same (Rc.of S) := by
  obtain ⟨_, ⟨p, n, _⟩, _, _, hal⟩ := h
  refine ⟨⟨rfl, rfl, ?_, ?_, rfl, rfl, rfl, rfl⟩, fun i hi => imB_self _, fun i hi => (alB_iff _ _).2 (al_eq _ _ (hal i hi))⟩
  · rw [of_pv8]; exact (sint8 _).2 p
  · rw [of_nx8]; exact (sint8 _).2 n

/-- What the reference's Decode knows at any moment. -/
structure DJ (w : World) (cs : Array Value) (st : Oct.Rs) (wr : World) : Prop where
  rd : R6 wr (w.heap.size + 1) st
  res : Bk wr w.heap.size 29 (Rc.zero.cs nil_ nil_)
  ro : Bk wr (w.heap.size + 2) 29 cs
  bel : Below w.heap.size w wr
theorem DJ.grown {w : World} {cs : Array Value} {st st' : Oct.Rs} {wr w' : World} (h : DJ w cs st wr) (hr : R6 w' (w.heap.size + 1) st') (hg : wr.grownBy w' (some (w.heap.size + 1))) : DJ w cs st' w' :=
  ⟨hr, h.res.grown hg (by simp), h.ro.grown hg (by simp), h.bel.grown hg h.bel.size (by intro k hk; simp at hk; omega)⟩
theorem DJ.kept {w : World} {cs : Array Value} {st : Oct.Rs} {wr w' : World} (h : DJ w cs st wr) (hb : Below wr.heap.size wr w') : DJ w cs st w' :=
  ⟨Bk.kept h.rd hb, h.res.kept hb, h.ro.kept hb, below_then h.bel hb h.bel.size⟩
theorem DJ.alloc {w : World} {cs : Array Value} {st : Oct.Rs} {wr : World} (h : DJ w cs st wr) (o : Obj) : DJ w cs st (wr.alloc o) := h.kept ((Below.refl _ _).alloc (Nat.le_refl _) o)
theorem DJ.row {w : World} {cs : Array Value} {st : Oct.Rs} {wr w' : World} (h : DJ w cs st wr) {row : Option Nat} (hg : wr.grownBy w' row) (hrow : ∀ k, row = some k → w.heap.size + 2 < k) : DJ w cs st w' :=
  ⟨Bk.grown h.rd hg (fun e => by have := hrow _ e.symm; omega), h.res.grown hg (fun e => by have := hrow _ e.symm; omega), h.ro.grown hg (fun e => by have := hrow _ e.symm; omega),
    h.bel.grown hg h.bel.size (fun k hk => by have := hrow k hk; omega)⟩
theorem DJ.set {w : World} {cs : Array Value} {st : Oct.Rs} {wr : World} (h : DJ w cs st wr) (i : Nat) (u : Value) : DJ w (cs.setIfInBounds i u) st (wr.setCell ⟨w.heap.size + 2, i, none⟩ u) :=
  ⟨Bk.far h.rd (p := ⟨w.heap.size + 2, i, none⟩) (by show w.heap.size + 1 ≠ w.heap.size + 2; omega) u, h.res.far (p := ⟨w.heap.size + 2, i, none⟩) (by show w.heap.size ≠ w.heap.size + 2; omega) u, h.ro.set i u, h.bel.setCell (p := ⟨w.heap.size + 2, i, none⟩) (by show w.heap.size ≤ w.heap.size + 2; omega) u⟩
theorem DJ.far {w : World} {cs : Array Value} {st : Oct.Rs} {wr : World} (h : DJ w cs st wr) {p : Addr} (hp : w.heap.size + 2 < p.block) (u : Value) : DJ w cs st (wr.setCell p u) :=
  ⟨Bk.far h.rd (p := p) (by omega) u, h.res.far (p := p) (by omega) u, h.ro.far (p := p) (by omega) u, h.bel.setCell (p := p) (by omega) u⟩
theorem DJ.put {w : World} {cs : Array Value} {st st' : Oct.Rs} {wr : World} (h : DJ w cs st wr) (o : Obj) : DJ w cs st' (((wr.setCell ⟨w.heap.size + 1, 0, none⟩ (.string (st'.getD ⟨#[]⟩))).setCell ⟨w.heap.size + 1, 1, none⟩ (.bool st'.isNone)).alloc o) :=
  ⟨((Bk.set h.rd 0 _).set 1 _).alloc o, ((h.res.far (p := ⟨w.heap.size + 1, 0, none⟩) (by show w.heap.size ≠ w.heap.size + 1; omega) _).far (p := ⟨w.heap.size + 1, 1, none⟩) (by show w.heap.size ≠ w.heap.size + 1; omega) _).alloc o, ((h.ro.far (p := ⟨w.heap.size + 1, 0, none⟩) (by show w.heap.size + 2 ≠ w.heap.size + 1; omega) _).far (p := ⟨w.heap.size + 1, 1, none⟩) (by show w.heap.size + 2 ≠ w.heap.size + 1; omega) _).alloc o,
    ((h.bel.setCell (p := ⟨w.heap.size + 1, 0, none⟩) (by show w.heap.size ≤ w.heap.size + 1; omega) _).setCell (p := ⟨w.heap.size + 1, 1, none⟩) (by show w.heap.size ≤ w.heap.size + 1; omega) _).alloc (by have := h.bel.size; simpa [World.setCell] using this) o⟩

def RDecPost (S : ByteArray) (w : World) (e : Ending) (w' : World) : Prop :=
  (∃ vi vl, decOk S ∧ e = .returned (.tuple #[.agg ((Rc.sf S).cs vi vl), .int .i64 0]) ∧ ImAt w' w'.heap.size vi (Rc.sf S).ni (Rc.sf S).im ∧ AlAt w' w'.heap.size vl (Rc.sf S).nl (Rc.sf S).al ∧ Below w.heap.size w w') ∨
  (¬ decOk S ∧ e = .returned (.tuple #[.agg (Rc.zero.cs nil_ nil_), .int .i64 40]) ∧ Below w.heap.size w w')
theorem r6_results (tmps : Array Value) (w : World) (g : Nat) (cs : Array Value) (h : Bk w g 29 cs) (hc : cs.toList.length = 14) (hp : tmps.getD 2 undef = .pointer (some ⟨g, 0, none⟩)) :
    (results Try.f14 tmps).run Try.prog w = .ok (.tuple #[.agg cs, tmps.getD 3 undef]) w := by
  rw [results_cell_tmp (p := 2) (u := 3) (ty := 29) rfl, hp]
  have := rec_load h hc
  simp [asAddr, Sem.run_pure, Result.andThen, this]
theorem ist_none {s : Oct.Rs} {j : Nat} (h : (ist s j).isNone = true) : ¬ Good (ibody s j) := fun hg => by
  have e : ist s j = none := by cases h' : ist s j <;> simp_all
  have h1 := hg.1
  unfold ibody at h1
  rw [e] at h1
  exact absurd h1 (by decide)
theorem lst_none {s : Oct.Rs} {q : Nat} (h : (lst s q).isNone = true) : ∀ k, lst s (q + k) = none
  | 0 => by cases h' : lst s q <;> simp_all
  | k + 1 => by
    show rnx (rnx (rnx (lst s (q + k)) 4) 8) 8 = none
    rw [lst_none h k]; rfl

set_option maxRecDepth 100000 in
set_option maxHeartbeats 8000000 in
theorem rldecode_any (S : ByteArray) (w : World) (hs : S.size ≤ maxLen) :
    Calls Try.prog 14 #[.string S] w (RDecPost S w) := by
  obtain ⟨s0, hs0⟩ : ∃ s : Oct.Rs, s = some S := ⟨_, rfl⟩
  have Z0 := Lib.hid (show (s0.getD ⟨#[]⟩).size ≤ maxLen by rw [hs0]; exact hs)
  have D0 := Lib.hid (show DJ w (#[.int .i64 0, .int .i64 0, .int .i64 0, .int .i64 0, .int .i64 0, .int .i64 0, .int .i64 0, .int .i64 0, .string ⟨#[]⟩, .int .i64 0, .string ⟨#[]⟩, .slice none 0 0, .slice none 0 0, .int .i64 0] : Array Value) s0 (((w.alloc (.cells (#[.int .i64 0, .int .i64 0, .int .i64 0, .int .i64 0, .int .i64 0, .int .i64 0, .int .i64 0, .int .i64 0, .string ⟨#[]⟩, .int .i64 0, .string ⟨#[]⟩, .slice none 0 0, .slice none 0 0, .int .i64 0] : Array Value) 29)).alloc (.cells #[.string S, .bool false] 74)).alloc (.cells (#[.int .i64 0, .int .i64 0, .int .i64 0, .int .i64 0, .int .i64 0, .int .i64 0, .int .i64 0, .int .i64 0, .string ⟨#[]⟩, .int .i64 0, .string ⟨#[]⟩, .slice none 0 0, .slice none 0 0, .int .i64 0] : Array Value) 29)) from
    ⟨by rw [hs0]; exact (Bk.new2 w _ _ _).alloc _, ((Bk.new w 29 _).alloc _).alloc _, Bk.new3 w _ _ _ _, (((Below.refl w.heap.size w).alloc (Nat.le_refl _) _).alloc (by simp) _).alloc (by simp; omega) _⟩)
  have HS0 := Lib.hid hs0
  clear hs hs0
  go_enter Try.func14, Try.ntmps14
  go_wp2_with fail
  generalize (((w.alloc (.cells (#[.int .i64 0, .int .i64 0, .int .i64 0, .int .i64 0, .int .i64 0, .int .i64 0, .int .i64 0, .int .i64 0, .string ⟨#[]⟩, .int .i64 0, .string ⟨#[]⟩, .slice none 0 0, .slice none 0 0, .int .i64 0] : Array Value) 29)).alloc (.cells #[.string S, .bool false] 74)).alloc (.cells (#[.int .i64 0, .int .i64 0, .int .i64 0, .int .i64 0, .int .i64 0, .int .i64 0, .int .i64 0, .int .i64 0, .string ⟨#[]⟩, .int .i64 0, .string ⟨#[]⟩, .slice none 0 0, .slice none 0 0, .int .i64 0] : Array Value) 29)) = u0 at *
  obtain ⟨q0, hq⟩ : ∃ q, q = rint s0 1 := ⟨_, rfl⟩
  obtain ⟨s1, hs⟩ : ∃ s, s = rnx s0 1 := ⟨_, rfl⟩
  have c := r6num1 (w.heap.size + 1) s0 u0 D0.out.rd Z0.out
  rw [← hq, ← hs] at c
  have Z1 := Lib.hid (show (s1.getD ⟨#[]⟩).size ≤ maxLen by rw [hs]; exact Nat.le_trans (rnx_size s0 1) Z0.out)
  have HQ0 := Lib.hid hq; have HS1 := Lib.hid hs; have C := Lib.hid c
  clear hq hs c Z0
  refine C.out.mono ?_
  rintro e v0 ⟨rfl, r1, g1⟩
  have E0 := Lib.hid (D0.out.grown r1 g1)
  have x : v0.cell? ⟨w.heap.size + 2, 0, none⟩ = some (.int .i64 0) := E0.out.ro.cell 0
  have y := E0.out.ro.fz 0
  clear r1 g1 D0 C
  have D1 := Lib.hid (show DJ w #[.int .i64 q0, .int .i64 0, .int .i64 0, .int .i64 0, .int .i64 0, .int .i64 0, .int .i64 0, .int .i64 0, .string ⟨#[]⟩, .int .i64 0, .string ⟨#[]⟩, .slice none 0 0, .slice none 0 0, .int .i64 0] s1 (v0.setCell ⟨w.heap.size + 2, 0, none⟩ (.int .i64 q0)) from E0.out.set 0 _)
  go_wp2_with fail
  clear x y E0
  generalize v0.setCell ⟨w.heap.size + 2, 0, none⟩ (.int .i64 q0) = u1 at *
  obtain ⟨q1, hq⟩ : ∃ q, q = rint s1 4 := ⟨_, rfl⟩
  obtain ⟨s2, hs⟩ : ∃ s, s = rnx s1 4 := ⟨_, rfl⟩
  have c := r6num4 (w.heap.size + 1) s1 u1 D1.out.rd Z1.out
  rw [← hq, ← hs] at c
  have Z2 := Lib.hid (show (s2.getD ⟨#[]⟩).size ≤ maxLen by rw [hs]; exact Nat.le_trans (rnx_size s1 4) Z1.out)
  have HQ1 := Lib.hid hq; have HS2 := Lib.hid hs; have C := Lib.hid c
  clear hq hs c Z1
  refine C.out.mono ?_
  rintro e v1 ⟨rfl, r1, g1⟩
  have E1 := Lib.hid (D1.out.grown r1 g1)
  have x : v1.cell? ⟨w.heap.size + 2, 1, none⟩ = some (.int .i64 0) := E1.out.ro.cell 1
  have y := E1.out.ro.fz 1
  clear r1 g1 D1 C
  have D2 := Lib.hid (show DJ w #[.int .i64 q0, .int .i64 q1, .int .i64 0, .int .i64 0, .int .i64 0, .int .i64 0, .int .i64 0, .int .i64 0, .string ⟨#[]⟩, .int .i64 0, .string ⟨#[]⟩, .slice none 0 0, .slice none 0 0, .int .i64 0] s2 (v1.setCell ⟨w.heap.size + 2, 1, none⟩ (.int .i64 q1)) from E1.out.set 1 _)
  go_wp2_with fail
  clear x y E1
  generalize v1.setCell ⟨w.heap.size + 2, 1, none⟩ (.int .i64 q1) = u2 at *
  obtain ⟨q2, hq⟩ : ∃ q, q = sint s2 8 := ⟨_, rfl⟩
  obtain ⟨s3, hs⟩ : ∃ s, s = rnx s2 8 := ⟨_, rfl⟩
  have c := r6num8 (w.heap.size + 1) s2 u2 D2.out.rd Z2.out
  rw [← hq, ← hs] at c
  have Z3 := Lib.hid (show (s3.getD ⟨#[]⟩).size ≤ maxLen by rw [hs]; exact Nat.le_trans (rnx_size s2 8) Z2.out)
  have HQ2 := Lib.hid hq; have HS3 := Lib.hid hs; have C := Lib.hid c
  clear hq hs c Z2
  refine C.out.mono ?_
  rintro e v2 ⟨rfl, r1, g1⟩
  have E2 := Lib.hid (D2.out.grown r1 g1)
  have x : v2.cell? ⟨w.heap.size + 2, 2, none⟩ = some (.int .i64 0) := E2.out.ro.cell 2
  have y := E2.out.ro.fz 2
  clear r1 g1 D2 C
  have D3 := Lib.hid (show DJ w #[.int .i64 q0, .int .i64 q1, .int .i64 q2, .int .i64 0, .int .i64 0, .int .i64 0, .int .i64 0, .int .i64 0, .string ⟨#[]⟩, .int .i64 0, .string ⟨#[]⟩, .slice none 0 0, .slice none 0 0, .int .i64 0] s3 (v2.setCell ⟨w.heap.size + 2, 2, none⟩ (.int .i64 q2)) from E2.out.set 2 _)
  go_wp2_with fail
  clear x y E2
  generalize v2.setCell ⟨w.heap.size + 2, 2, none⟩ (.int .i64 q2) = u3 at *
  obtain ⟨q3, hq⟩ : ∃ q, q = sint s3 8 := ⟨_, rfl⟩
  obtain ⟨s4, hs⟩ : ∃ s, s = rnx s3 8 := ⟨_, rfl⟩
  have c := r6num8 (w.heap.size + 1) s3 u3 D3.out.rd Z3.out
  rw [← hq, ← hs] at c
  have Z4 := Lib.hid (show (s4.getD ⟨#[]⟩).size ≤ maxLen by rw [hs]; exact Nat.le_trans (rnx_size s3 8) Z3.out)
  have HQ3 := Lib.hid hq; have HS4 := Lib.hid hs; have C := Lib.hid c
  clear hq hs c Z3
  refine C.out.mono ?_
  rintro e v3 ⟨rfl, r1, g1⟩
  have E3 := Lib.hid (D3.out.grown r1 g1)
  have x : v3.cell? ⟨w.heap.size + 2, 3, none⟩ = some (.int .i64 0) := E3.out.ro.cell 3
  have y := E3.out.ro.fz 3
  clear r1 g1 D3 C
  have D4 := Lib.hid (show DJ w #[.int .i64 q0, .int .i64 q1, .int .i64 q2, .int .i64 q3, .int .i64 0, .int .i64 0, .int .i64 0, .int .i64 0, .string ⟨#[]⟩, .int .i64 0, .string ⟨#[]⟩, .slice none 0 0, .slice none 0 0, .int .i64 0] s4 (v3.setCell ⟨w.heap.size + 2, 3, none⟩ (.int .i64 q3)) from E3.out.set 3 _)
  go_wp2_with fail
  clear x y E3
  generalize v3.setCell ⟨w.heap.size + 2, 3, none⟩ (.int .i64 q3) = u4 at *
  obtain ⟨q4, hq⟩ : ∃ q, q = rint s4 4 := ⟨_, rfl⟩
  obtain ⟨s5, hs⟩ : ∃ s, s = rnx s4 4 := ⟨_, rfl⟩
  have c := r6num4 (w.heap.size + 1) s4 u4 D4.out.rd Z4.out
  rw [← hq, ← hs] at c
  have Z5 := Lib.hid (show (s5.getD ⟨#[]⟩).size ≤ maxLen by rw [hs]; exact Nat.le_trans (rnx_size s4 4) Z4.out)
  have HQ4 := Lib.hid hq; have HS5 := Lib.hid hs; have C := Lib.hid c
  clear hq hs c Z4
  refine C.out.mono ?_
  rintro e v4 ⟨rfl, r1, g1⟩
  have E4 := Lib.hid (D4.out.grown r1 g1)
  have x : v4.cell? ⟨w.heap.size + 2, 13, none⟩ = some (.int .i64 0) := E4.out.ro.cell 13
  have y := E4.out.ro.fz 13
  clear r1 g1 D4 C
  have D5 := Lib.hid (show DJ w #[.int .i64 q0, .int .i64 q1, .int .i64 q2, .int .i64 q3, .int .i64 0, .int .i64 0, .int .i64 0, .int .i64 0, .string ⟨#[]⟩, .int .i64 0, .string ⟨#[]⟩, .slice none 0 0, .slice none 0 0, .int .i64 q4] s5 (v4.setCell ⟨w.heap.size + 2, 13, none⟩ (.int .i64 q4)) from E4.out.set 13 _)
  go_wp2_with fail
  clear x y E4
  generalize v4.setCell ⟨w.heap.size + 2, 13, none⟩ (.int .i64 q4) = u5 at *
  obtain ⟨q5, hq⟩ : ∃ q, q = rint s5 1 := ⟨_, rfl⟩
  obtain ⟨s6, hs⟩ : ∃ s, s = rnx s5 1 := ⟨_, rfl⟩
  have c := r6num1 (w.heap.size + 1) s5 u5 D5.out.rd Z5.out
  rw [← hq, ← hs] at c
  have Z6 := Lib.hid (show (s6.getD ⟨#[]⟩).size ≤ maxLen by rw [hs]; exact Nat.le_trans (rnx_size s5 1) Z5.out)
  have HQ5 := Lib.hid hq; have HS6 := Lib.hid hs; have C := Lib.hid c
  clear hq hs c Z5
  refine C.out.mono ?_
  rintro e v5 ⟨rfl, r1, g1⟩
  have E5 := Lib.hid (D5.out.grown r1 g1)
  have x : v5.cell? ⟨w.heap.size + 2, 4, none⟩ = some (.int .i64 0) := E5.out.ro.cell 4
  have y := E5.out.ro.fz 4
  clear r1 g1 D5 C
  have D6 := Lib.hid (show DJ w #[.int .i64 q0, .int .i64 q1, .int .i64 q2, .int .i64 q3, .int .i64 q5, .int .i64 0, .int .i64 0, .int .i64 0, .string ⟨#[]⟩, .int .i64 0, .string ⟨#[]⟩, .slice none 0 0, .slice none 0 0, .int .i64 q4] s6 (v5.setCell ⟨w.heap.size + 2, 4, none⟩ (.int .i64 q5)) from E5.out.set 4 _)
  go_wp2_with fail
  clear x y E5
  generalize v5.setCell ⟨w.heap.size + 2, 4, none⟩ (.int .i64 q5) = u6 at *
  obtain ⟨q6, hq⟩ : ∃ q, q = rint s6 1 := ⟨_, rfl⟩
  obtain ⟨s7, hs⟩ : ∃ s, s = rnx s6 1 := ⟨_, rfl⟩
  have c := r6num1 (w.heap.size + 1) s6 u6 D6.out.rd Z6.out
  rw [← hq, ← hs] at c
  have Z7 := Lib.hid (show (s7.getD ⟨#[]⟩).size ≤ maxLen by rw [hs]; exact Nat.le_trans (rnx_size s6 1) Z6.out)
  have HQ6 := Lib.hid hq; have HS7 := Lib.hid hs; have C := Lib.hid c
  clear hq hs c Z6
  refine C.out.mono ?_
  rintro e v6 ⟨rfl, r1, g1⟩
  have E6 := Lib.hid (D6.out.grown r1 g1)
  have x : v6.cell? ⟨w.heap.size + 2, 5, none⟩ = some (.int .i64 0) := E6.out.ro.cell 5
  have y := E6.out.ro.fz 5
  clear r1 g1 D6 C
  have D7 := Lib.hid (show DJ w #[.int .i64 q0, .int .i64 q1, .int .i64 q2, .int .i64 q3, .int .i64 q5, .int .i64 q6, .int .i64 0, .int .i64 0, .string ⟨#[]⟩, .int .i64 0, .string ⟨#[]⟩, .slice none 0 0, .slice none 0 0, .int .i64 q4] s7 (v6.setCell ⟨w.heap.size + 2, 5, none⟩ (.int .i64 q6)) from E6.out.set 5 _)
  go_wp2_with fail
  clear x y E6
  generalize v6.setCell ⟨w.heap.size + 2, 5, none⟩ (.int .i64 q6) = u7 at *
  obtain ⟨q7, hq⟩ : ∃ q, q = rint s7 4 := ⟨_, rfl⟩
  obtain ⟨s8, hs⟩ : ∃ s, s = rnx s7 4 := ⟨_, rfl⟩
  have c := r6num4 (w.heap.size + 1) s7 u7 D7.out.rd Z7.out
  rw [← hq, ← hs] at c
  have Z8 := Lib.hid (show (s8.getD ⟨#[]⟩).size ≤ maxLen by rw [hs]; exact Nat.le_trans (rnx_size s7 4) Z7.out)
  have HQ7 := Lib.hid hq; have HS8 := Lib.hid hs; have C := Lib.hid c
  clear hq hs c Z7
  refine C.out.mono ?_
  rintro e v7 ⟨rfl, r1, g1⟩
  have E7 := Lib.hid (D7.out.grown r1 g1)
  have x : v7.cell? ⟨w.heap.size + 2, 6, none⟩ = some (.int .i64 0) := E7.out.ro.cell 6
  have y := E7.out.ro.fz 6
  clear r1 g1 D7 C
  have D8 := Lib.hid (show DJ w #[.int .i64 q0, .int .i64 q1, .int .i64 q2, .int .i64 q3, .int .i64 q5, .int .i64 q6, .int .i64 q7, .int .i64 0, .string ⟨#[]⟩, .int .i64 0, .string ⟨#[]⟩, .slice none 0 0, .slice none 0 0, .int .i64 q4] s8 (v7.setCell ⟨w.heap.size + 2, 6, none⟩ (.int .i64 q7)) from E7.out.set 6 _)
  go_wp2_with fail
  clear x y E7
  generalize v7.setCell ⟨w.heap.size + 2, 6, none⟩ (.int .i64 q7) = u8 at *
  obtain ⟨q8, hq⟩ : ∃ q, q = rint s8 1 := ⟨_, rfl⟩
  obtain ⟨s9, hs⟩ : ∃ s, s = rnx s8 1 := ⟨_, rfl⟩
  have c := r6num1 (w.heap.size + 1) s8 u8 D8.out.rd Z8.out
  rw [← hq, ← hs] at c
  have Z9 := Lib.hid (show (s9.getD ⟨#[]⟩).size ≤ maxLen by rw [hs]; exact Nat.le_trans (rnx_size s8 1) Z8.out)
  have HQ8 := Lib.hid hq; have HS9 := Lib.hid hs; have C := Lib.hid c
  clear hq hs c Z8
  refine C.out.mono ?_
  rintro e v8 ⟨rfl, r1, g1⟩
  have E8 := Lib.hid (D8.out.grown r1 g1)
  have x : v8.cell? ⟨w.heap.size + 2, 7, none⟩ = some (.int .i64 0) := E8.out.ro.cell 7
  have y := E8.out.ro.fz 7
  clear r1 g1 D8 C
  have D9 := Lib.hid (show DJ w #[.int .i64 q0, .int .i64 q1, .int .i64 q2, .int .i64 q3, .int .i64 q5, .int .i64 q6, .int .i64 q7, .int .i64 q8, .string ⟨#[]⟩, .int .i64 0, .string ⟨#[]⟩, .slice none 0 0, .slice none 0 0, .int .i64 q4] s9 (v8.setCell ⟨w.heap.size + 2, 7, none⟩ (.int .i64 q8)) from E8.out.set 7 _)
  go_wp2_with fail
  clear x y E8
  generalize v8.setCell ⟨w.heap.size + 2, 7, none⟩ (.int .i64 q8) = u9 at *
  obtain ⟨q9, hq⟩ : ∃ q, q = (Oct.rtext s9).1 := ⟨_, rfl⟩
  obtain ⟨s10, hs⟩ : ∃ s, s = (Oct.rtext s9).2 := ⟨_, rfl⟩
  have c := r6text (w.heap.size + 1) s9 u9 D9.out.rd Z9.out
  rw [← hq, ← hs] at c
  have Z10 := Lib.hid (show (s10.getD ⟨#[]⟩).size ≤ maxLen by rw [hs]; exact Nat.le_trans (rtext_size_ s9) Z9.out)
  have HQ9 := Lib.hid hq; have HS10 := Lib.hid hs; have C := Lib.hid c
  clear hq hs c Z9
  refine C.out.mono ?_
  rintro e v9 ⟨rfl, r1, g1⟩
  have E9 := Lib.hid (D9.out.grown r1 g1)
  have x : v9.cell? ⟨w.heap.size + 2, 8, none⟩ = some (.string ⟨#[]⟩) := E9.out.ro.cell 8
  have y := E9.out.ro.fz 8
  clear r1 g1 D9 C
  have D10 := Lib.hid (show DJ w #[.int .i64 q0, .int .i64 q1, .int .i64 q2, .int .i64 q3, .int .i64 q5, .int .i64 q6, .int .i64 q7, .int .i64 q8, .string q9, .int .i64 0, .string ⟨#[]⟩, .slice none 0 0, .slice none 0 0, .int .i64 q4] s10 (v9.setCell ⟨w.heap.size + 2, 8, none⟩ (.string q9)) from E9.out.set 8 _)
  go_wp2_with fail
  clear x y E9
  generalize v9.setCell ⟨w.heap.size + 2, 8, none⟩ (.string q9) = u10 at *
  obtain ⟨q10, hq⟩ : ∃ q, q = rint s10 1 := ⟨_, rfl⟩
  obtain ⟨s11, hs⟩ : ∃ s, s = rnx s10 1 := ⟨_, rfl⟩
  have c := r6num1 (w.heap.size + 1) s10 u10 D10.out.rd Z10.out
  rw [← hq, ← hs] at c
  have Z11 := Lib.hid (show (s11.getD ⟨#[]⟩).size ≤ maxLen by rw [hs]; exact Nat.le_trans (rnx_size s10 1) Z10.out)
  have HQ10 := Lib.hid hq; have HS11 := Lib.hid hs; have C := Lib.hid c
  clear hq hs c Z10
  refine C.out.mono ?_
  rintro e v10 ⟨rfl, r1, g1⟩
  have E10 := Lib.hid (D10.out.grown r1 g1)
  have x : v10.cell? ⟨w.heap.size + 2, 9, none⟩ = some (.int .i64 0) := E10.out.ro.cell 9
  have y := E10.out.ro.fz 9
  clear r1 g1 D10 C
  have D11 := Lib.hid (show DJ w #[.int .i64 q0, .int .i64 q1, .int .i64 q2, .int .i64 q3, .int .i64 q5, .int .i64 q6, .int .i64 q7, .int .i64 q8, .string q9, .int .i64 q10, .string ⟨#[]⟩, .slice none 0 0, .slice none 0 0, .int .i64 q4] s11 (v10.setCell ⟨w.heap.size + 2, 9, none⟩ (.int .i64 q10)) from E10.out.set 9 _)
  go_wp2_with fail
  clear x y E10
  generalize v10.setCell ⟨w.heap.size + 2, 9, none⟩ (.int .i64 q10) = u11 at *
  obtain ⟨q11, hq⟩ : ∃ q, q = (Oct.rtext s11).1 := ⟨_, rfl⟩
  obtain ⟨s12, hs⟩ : ∃ s, s = (Oct.rtext s11).2 := ⟨_, rfl⟩
  have c := r6text (w.heap.size + 1) s11 u11 D11.out.rd Z11.out
  rw [← hq, ← hs] at c
  have Z12 := Lib.hid (show (s12.getD ⟨#[]⟩).size ≤ maxLen by rw [hs]; exact Nat.le_trans (rtext_size_ s11) Z11.out)
  have HQ11 := Lib.hid hq; have HS12 := Lib.hid hs; have C := Lib.hid c
  clear hq hs c Z11
  refine C.out.mono ?_
  rintro e v11 ⟨rfl, r1, g1⟩
  have E11 := Lib.hid (D11.out.grown r1 g1)
  have x : v11.cell? ⟨w.heap.size + 2, 10, none⟩ = some (.string ⟨#[]⟩) := E11.out.ro.cell 10
  have y := E11.out.ro.fz 10
  clear r1 g1 D11 C
  have D12 := Lib.hid (show DJ w #[.int .i64 q0, .int .i64 q1, .int .i64 q2, .int .i64 q3, .int .i64 q5, .int .i64 q6, .int .i64 q7, .int .i64 q8, .string q9, .int .i64 q10, .string q11, .slice none 0 0, .slice none 0 0, .int .i64 q4] s12 (v11.setCell ⟨w.heap.size + 2, 10, none⟩ (.string q11)) from E11.out.set 10 _)
  go_wp2_with fail
  clear x y E11
  generalize v11.setCell ⟨w.heap.size + 2, 10, none⟩ (.string q11) = u12 at *
  have hcs : ∀ vi vl, (Rc.sf S).cs vi vl = #[.int .i64 q0, .int .i64 q1, .int .i64 q2, .int .i64 q3, .int .i64 q5, .int .i64 q6, .int .i64 q7, .int .i64 q8, .string q9, .int .i64 q10, .string q11, vi, vl, .int .i64 q4] := by
    intro vi vl
    obtain rfl := HS0.out
    obtain rfl := HS1.out
    obtain rfl := HS2.out
    obtain rfl := HS3.out
    obtain rfl := HS4.out
    obtain rfl := HS5.out
    obtain rfl := HS6.out
    obtain rfl := HS7.out
    obtain rfl := HS8.out
    obtain rfl := HS9.out
    obtain rfl := HS10.out
    obtain rfl := HS11.out
    obtain rfl := HS12.out
    obtain rfl := HQ0.out
    obtain rfl := HQ1.out
    obtain rfl := HQ2.out
    obtain rfl := HQ3.out
    obtain rfl := HQ4.out
    obtain rfl := HQ5.out
    obtain rfl := HQ6.out
    obtain rfl := HQ7.out
    obtain rfl := HQ8.out
    obtain rfl := HQ9.out
    obtain rfl := HQ10.out
    obtain rfl := HQ11.out
    rfl
  have hd6 : d6 S = s12 := by
    obtain rfl := HS0.out
    obtain rfl := HS1.out
    obtain rfl := HS2.out
    obtain rfl := HS3.out
    obtain rfl := HS4.out
    obtain rfl := HS5.out
    obtain rfl := HS6.out
    obtain rfl := HS7.out
    obtain rfl := HS8.out
    obtain rfl := HS9.out
    obtain rfl := HS10.out
    obtain rfl := HS11.out
    obtain rfl := HS12.out
    obtain rfl := HQ0.out
    obtain rfl := HQ1.out
    obtain rfl := HQ2.out
    obtain rfl := HQ3.out
    obtain rfl := HQ4.out
    obtain rfl := HQ5.out
    obtain rfl := HQ6.out
    obtain rfl := HQ7.out
    obtain rfl := HQ8.out
    obtain rfl := HQ9.out
    obtain rfl := HQ10.out
    obtain rfl := HQ11.out
    rfl
  have D12' := Lib.hid (show DJ w ((Rc.sf S).cs nil_ nil_) (d6 S) u12 by rw [hcs, hd6]; exact D12.out)
  have Z6 := Lib.hid (show ((d6 S).getD ⟨#[]⟩).size ≤ maxLen by rw [hd6]; exact Z12.out)
  have hdn : rint (d6 S) 1 = ((dn S : Nat) : Int) := by unfold dn; have := rint1_bd (d6 S); omega
  have hn : dn S < 256 := by have := rint1_bd (d6 S); unfold dn; omega
  have HN := Lib.hid hn
  clear hcs hd6 hn D12 Z12 HQ0 HQ1 HQ2 HQ3 HQ4 HQ5 HQ6 HQ7 HQ8 HQ9 HQ10 HQ11 HS1 HS2 HS3 HS4 HS5 HS6 HS7 HS8 HS9 HS10 HS11 HS12 HS0
  refine (r6num1 (w.heap.size + 1) (d6 S) u12 D12'.out.rd Z6.out).mono ?_
  rintro e v ⟨rfl, r1, g1⟩
  rw [hdn]
  have Z7 := Lib.hid (show ((d7 S).getD ⟨#[]⟩).size ≤ maxLen from Nat.le_trans (rnx_size (d6 S) 1) Z6.out)
  have D := Lib.hid (show DJ w ((Rc.sf S).cs nil_ nil_) (d7 S) v from D12'.out.grown r1 g1)
  clear r1 g1 D12' hdn
  obtain ⟨i0, hi, hz0, hz1, hz2⟩ := info_parts Try.info51
  go_wp2_with fail
  go_loopw [7] (fun i wr => ∃ (j : Nat) (vi : Value), j ≤ dn S ∧ i = .int .i64 j ∧ DJ w ((Rc.sf S).cs vi nil_) (ist (d7 S) j) wr ∧ wr.ownsRow (w.heap.size + 3) 51 17 vi j (imL (iim (d7 S)) j) ∧ ∀ i, i < j → Good (ibody (d7 S) i)) (fun i _ => dn S - (intOf i).toNat)
  case atStart => exact ⟨0, nil_, Nat.zero_le _, rfl, D.out, World.ownsRow_nil _ _ _ _, fun i hi => absurd hi (Nat.not_lt_zero i)⟩
  case round =>
    clear D
    obtain ⟨j, vi, hj, rfl, hD, hO, hG⟩ := hrel
    have Y0 := Lib.hid (Nat.le_trans (ist_size (d7 S) j) Z7.out)
    have D0 := Lib.hid hD; have O0 := Lib.hid hO; have G0 := Lib.hid hG
    clear hD hO hG
    by_cases hlt : j < dn S
    · have HLT := Lib.hid hlt
      have hj6 : j < 256 := by have := HN.out; omega
      have NB := Lib.hid (fun (h : (ist (d7 S) j).isNone = true) => ist_none h)
      generalize hst : ist (d7 S) j = st at *
      have HST := Lib.hid hst
      clear hst
      by_cases hbad : st.isNone = true
      · have NO := Lib.hid (show ¬ decOk S from fun h => NB.out hbad (h.1 j HLT.out))
        have x1 : wr.cell? ⟨w.heap.size + 1, 1, none⟩ = some (.bool true) := by have := D0.out.rd.cell 1; rw [hbad] at this; exact this
        obtain rfl : st = none := by cases st with | none => rfl | some _ => cases hbad
        clear hbad NB
        go_wp2_with fail
        refine (r6num1 (w.heap.size + 1) none wr D0.out.rd Y0.out).mono ?_
        rintro e v1 ⟨rfl, r1, g1⟩
        have D1 := Lib.hid (D0.out.grown r1 g1)
        have z1 : v1.cell? ⟨w.heap.size + 1, 1, none⟩ = some (.bool true) := D1.out.rd.cell 1
        rw [show rint none 1 = 0 by decide +kernel]
        clear r1 g1 x1
        go_wp2_with fail
        go_loopw [13] (fun i wr => i = .int .i64 0 ∧ wr = v1) (fun i _ => 0)
        case atStart => exact ⟨rfl, rfl⟩
        case round =>
          obtain ⟨rfl, rfl⟩ := hrel
          go_wp2_with (refine wpList_store_row rfl 29 _ _ rfl w.heap.size (Rc.zero.cs nil_ nil_) rfl rfl 29 _ D1.out.res (by kernel_rfl) rfl (by simp [Value.oneCell', Rc.cs, nil_]) ?_)
          refine bodyPost_ret (r6_results _ _ w.heap.size (Rc.zero.cs nil_ nil_) (setRow_heap _ _ _ _ _ _ D1.out.res) rfl rfl) rfl ?_
          have h := D1.out.bel
          exact .inr ⟨NO.out, rfl, ⟨h.os, h.tape, h.output, by simpa [World.setRow] using h.size, fun i hi => (setRow_other _ _ _ _ (by omega)).trans (h.block i hi)⟩⟩
      · have hbf : st.isNone = false := Bool.eq_false_iff.2 hbad
        have x1 : wr.cell? ⟨w.heap.size + 1, 1, none⟩ = some (.bool false) := by have := D0.out.rd.cell 1; rw [hbf] at this; exact this
        clear hbad hbf NB
        go_wp2_with fail
        have Y1 := Lib.hid (Nat.le_trans (rnx_size st 4) Y0.out)
        refine (r6num4 (w.heap.size + 1) st wr D0.out.rd Y0.out).mono ?_
        rintro e v1 ⟨rfl, r1, g1⟩
        have D1 := Lib.hid (D0.out.grown r1 g1); have O1 := Lib.hid (owns_grown O0.out g1 (by omega))
        have NX := Lib.hid (show ist (d7 S) (j + 1) = (Oct.rbytes (rnx st 4) 224).2 from by show (Oct.rbytes (rnx (ist (d7 S) j) 4) 224).2 = _; rw [HST.out])
        have IB := Lib.hid (show ibody (d7 S) j = (Oct.rbytes (rnx st 4) 224).1 from by unfold ibody; rw [HST.out])
        have II := Lib.hid (show (iim (d7 S) j).cs = Im.cs ⟨rint st 4, Pg.dec (ibody (d7 S) j)⟩ from by unfold iim; rw [HST.out])
        have IMS := Lib.hid (show imL (iim (d7 S)) (j + 1) = imL (iim (d7 S)) j ++ (iim (d7 S) j).cs.toList from rfl)
        have cb := fun w => rr_bytes (rnx st 4) 224 w Y1.out
        unfold rsv at cb
        clear r1 g1 D0 O0 x1
        generalize rint st 4 = idn at *
        generalize rnx st 4 = st1 at *
        generalize Oct.rbytes st1 224 = pp at *
        obtain ⟨body, st2⟩ := pp
        dsimp only at cb NX IB
        have CB := Lib.hid cb
        have x0 : v1.cell? ⟨w.heap.size + 1, 0, none⟩ = some (.string (st1.getD ⟨#[]⟩)) := D1.out.rd.cell 0
        have x1 : v1.cell? ⟨w.heap.size + 1, 1, none⟩ = some (.bool st1.isNone) := D1.out.rd.cell 1
        clear cb
        go_wp2_with fail
        refine (CB.out _).mono ?_
        rintro e v2 ⟨rfl, hb2⟩
        have D2 := Lib.hid (D1.out.kept hb2); have O2 := Lib.hid (owns_kept O1.out hb2)
        have y0 : v2.cell? ⟨w.heap.size + 1, 0, none⟩ = some (.string (st1.getD ⟨#[]⟩)) := D2.out.rd.cell 0
        have y1 : v2.cell? ⟨w.heap.size + 1, 1, none⟩ = some (.bool st1.isNone) := D2.out.rd.cell 1
        have f0 := D2.out.rd.fz 0; have f1 := D2.out.rd.fz 1
        have gl := D2.out.rd.lt
        have D3 := Lib.hid (D2.out.put (st' := st2) (.cells #[.string (st2.getD ⟨#[]⟩), .bool st2.isNone] 72))
        have O3 := Lib.hid (((owns_far (owns_far O2.out (p := ⟨w.heap.size + 1, 0, none⟩) (by show w.heap.size + 1 < w.heap.size + 3; omega) (.string (st2.getD ⟨#[]⟩))) (p := ⟨w.heap.size + 1, 1, none⟩) (by show w.heap.size + 1 < w.heap.size + 3; omega) (.bool st2.isNone))).alloc (.cells #[.string (st2.getD ⟨#[]⟩), .bool st2.isNone] 72))
        clear hb2 x0 x1 D1 O1 CB
        go_wp2_with fail
        clear y0 y1 f0 f1 gl D2 O2
        generalize (((v2.setCell ⟨w.heap.size + 1, 0, none⟩ (.string (st2.getD ⟨#[]⟩))).setCell ⟨w.heap.size + 1, 1, none⟩ (.bool st2.isNone)).alloc (.cells #[.string (st2.getD ⟨#[]⟩), .bool st2.isNone] 72)) = v3 at *
        have hcd := fun w => rdecode4_any body w
        unfold Pg.v at hcd
        have CD := Lib.hid hcd
        clear hcd
        refine (CD.out _).mono ?_
        rintro e v4 ⟨rfl, hb4⟩
        have D4 := Lib.hid (show DJ w ((Rc.sf S).cs vi nil_) (ist (d7 S) (j + 1)) v4 from by rw [NX.out]; exact D3.out.kept hb4); have O4 := Lib.hid (owns_kept O3.out hb4)
        clear hb4 D3 O3 CD
        by_cases hgd : Good body
        · have hde : decErr body = 0 := if_pos hgd
          rw [hde]
          have GS := Lib.hid (fun (i : Nat) (hi : i < j + 1) => show Good (ibody (d7 S) i) by
            rcases Nat.lt_or_ge i j with h | h
            · exact G0.out i h
            · obtain rfl : i = j := by omega
              rw [IB.out]; exact hgd)
          have II' := Lib.hid (show (iim (d7 S) j).cs = Im.cs ⟨idn, Pg.dec body⟩ by rw [II.out, IB.out])
          clear hgd hde G0 II IB NX
          generalize Pg.dec body = pg at *
          have K5 := Lib.hid (Bk.new v4 49 pg.cs)
          have D5 := Lib.hid (D4.out.alloc (.cells pg.cs 49)); have O5 := Lib.hid (O4.out.alloc (.cells pg.cs 49))
          clear D4 O4
          go_wp2_with (first
            | (refine store_page_new rfl _ _ rfl pg rfl rfl ?_; generalize (v4.alloc (.cells pg.cs 49)) = v5 at K5 D5 O5 ⊢; have x11 : v5.cell? ⟨w.heap.size + 2, 11, none⟩ = some vi := D5.out.ro.cell 11; have O5a := Lib.hid (O5.out.alloc (.cells (Im.cs ⟨idn, pg⟩) 51)); have D5a := Lib.hid (D5.out.alloc (.cells (Im.cs ⟨idn, pg⟩) 51)))
            | (refine wpList_load_part 49 _ rfl (by first | rfl | kernel_rfl) v4.heap.size 0 pg.cs rfl (page_load0 K5.out) ?_; unfold Pg.cs)
            | (at_builtin; refine wpList_append_one _ rfl _ _ 26 rfl (w.heap.size + 3) 51 i0 (.agg Im.zero.cs) 17 184 Try.underlying26 hi hz0 hz1 hz2 rfl vi j (imL (iim (d7 S)) j) rfl O5a.out ⟨v5.heap.size, 0, none⟩ 1 (Im.cs ⟨idn, pg⟩).toList rfl rfl ?qc2 ?qc3 ?qc4 (by omega) ?qc5 ?qc6 ?_))
          case qc2 =>
            intro q x hx
            have hn := (Bk.new v5 51 (Im.cs ⟨idn, pg⟩)).cell q
            rw [Addr.add_lit, Nat.zero_add]
            refine Eq.trans hn ?_
            simpa using hx
          case qc3 => simp [Im.cs, Value.oneCell']
          case qc4 => have := HN.out; have := HLT.out; unfold maxLen; omega
          case qc5 => have := HN.out; have := HLT.out; omega
          case qc6 => have := D5.out.ro.lt; simp; omega
          intro v' w6 hown hgrow
          obtain ⟨ia, ic, rfl⟩ := owns_slice hown
          have D6 := Lib.hid (D5a.out.row hgrow (fun k hk => by have := (O5.out.lt k hk).1; omega))
          rw [← II'.out, ← IMS.out] at hown
          have O6 := Lib.hid hown
          have z11 : w6.cell? ⟨w.heap.size + 2, 11, none⟩ = some vi := D6.out.ro.cell 11
          have y11 := D6.out.ro.fz 11
          clear x11 hown hgrow D5 O5 D5a O5a K5
          have D7 := Lib.hid (show DJ w ((Rc.sf S).cs (.slice ia (j + 1) ic) nil_) (ist (d7 S) (j + 1)) (w6.setCell ⟨w.heap.size + 2, 11, none⟩ (.slice ia (j + 1) ic)) from D6.out.set 11 _)
          have O7 := Lib.hid (owns_far O6.out (p := ⟨w.heap.size + 2, 11, none⟩) (Nat.lt_succ_self (w.heap.size + 2)) (.slice ia (j + 1) ic))
          go_wp2
          go_roundw
          case rel => exact ⟨j + 1, .slice ia (j + 1) ic, by have := HLT.out; omega, by go_num, D7.out, O7.out, GS.out⟩
          case measure => have := HLT.out; simp [intOf]; omega
        · have hde : decErr body = 40 := if_neg hgd
          rw [hde]
          have NO := Lib.hid (show ¬ decOk S from fun h => hgd (by rw [← IB.out]; exact h.1 j HLT.out))
          clear hgd hde
          generalize Pg.dec body = pg at *
          have D5 := Lib.hid (D4.out.alloc (.cells pg.cs 49))
          clear D4
          go_wp2_with (first
            | (refine store_page_new rfl _ _ rfl pg rfl rfl ?_; generalize (v4.alloc (.cells pg.cs 49)) = v5 at D5 ⊢)
            | (refine wpList_store_row rfl 29 _ _ rfl w.heap.size (Rc.zero.cs nil_ nil_) rfl rfl 29 _ D5.out.res (by kernel_rfl) rfl (by simp [Value.oneCell', Rc.cs, nil_]) ?_))
          refine bodyPost_ret (r6_results _ _ w.heap.size (Rc.zero.cs nil_ nil_) (setRow_heap _ _ _ _ _ _ D5.out.res) rfl rfl) rfl ?_
          have h := D5.out.bel
          exact .inr ⟨NO.out, rfl, ⟨h.os, h.tape, h.output, by simpa [World.setRow] using h.size, fun i hi => (setRow_other _ _ _ _ (by omega)).trans (h.block i hi)⟩⟩
    · obtain rfl : j = dn S := by omega
      have x1 : wr.cell? ⟨w.heap.size + 1, 1, none⟩ = some (.bool (ist (d7 S) (dn S)).isNone) := D0.out.rd.cell 1
      go_wp2_with fail
      refine (r6num1 (w.heap.size + 1) _ _ D0.out.rd Y0.out).mono ?_
      rintro e v1 ⟨rfl, r1, g1⟩
      have hm8 : rint (ist (d7 S) (dn S)) 1 = ((dm S : Nat) : Int) := by unfold dm d8; have := rint1_bd (ist (d7 S) (dn S)); omega
      have hm256 : dm S < 256 := by have := rint1_bd (ist (d7 S) (dn S)); unfold dm d8; omega
      rw [hm8]
      have D1 := Lib.hid (show DJ w ((Rc.sf S).cs vi nil_) (d9 S) v1 from D0.out.grown r1 g1); have O1 := Lib.hid (owns_grown O0.out g1 (by omega))
      have Z9 := Lib.hid (show ((d9 S).getD ⟨#[]⟩).size ≤ maxLen from Nat.le_trans (rnx_size (ist (d7 S) (dn S)) 1) Y0.out)
      have HM := Lib.hid hm256
      clear r1 g1 D0 O0 Y0 hm8 hm256 hj hlt x1
      obtain ⟨j0, gi, gz0, gz1, gz2⟩ := info_parts Try.info54
      go_wp2_with fail
      go_loopw [13] (fun i wr => ∃ (q : Nat) (vl : Value), q ≤ dm S ∧ i = .int .i64 q ∧ DJ w ((Rc.sf S).cs vi vl) (lst (d9 S) q) wr ∧ wr.ownsRow (w.heap.size + 3) 51 17 vi (dn S) (imL (iim (d7 S)) (dn S)) ∧ wr.ownsRow (w.heap.size + 3) 54 3 vl q (alL (sal (d9 S)) q)) (fun i _ => dm S - (intOf i).toNat)
      case atStart => exact ⟨0, nil_, Nat.zero_le _, rfl, D1.out, O1.out, World.ownsRow_nil _ _ _ _⟩
      case round =>
        clear D1 O1
        obtain ⟨q, vl, hq, rfl, hD, hO, hP⟩ := hrel
        have Y0 := Lib.hid (Nat.le_trans (lst_size (d9 S) q) Z9.out)
        have D0 := Lib.hid hD; have O0 := Lib.hid hO; have P0 := Lib.hid hP
        have NX := Lib.hid (show lst (d9 S) (q + 1) = rnx (rnx (rnx (lst (d9 S) q) 4) 8) 8 from rfl)
        have NN := Lib.hid (fun (h : (lst (d9 S) q).isNone = true) => show ¬ decOk S from fun hd => by
          have h2 := hd.2.1
          unfold dz at h2
          rw [show dm S = q + (dm S - q) by omega, lst_none h] at h2
          cases h2)
        have DZ := Lib.hid (fun (h : q = dm S) => show dz S = lst (d9 S) q by unfold dz; rw [h])
        have ALS := Lib.hid (show alL (sal (d9 S)) (q + 1) = alL (sal (d9 S)) q ++ [.int .i64 (rint (lst (d9 S) q) 4), .int .i64 (sint (rnx (lst (d9 S) q) 4) 8), .int .i64 (sint (rnx (rnx (lst (d9 S) q) 4) 8) 8)] from rfl)
        clear hD hO hP
        generalize lst (d9 S) q = st at *
        by_cases hbad : st.isNone = true
        · have NO := Lib.hid (NN.out hbad)
          have x1 : wr.cell? ⟨w.heap.size + 1, 1, none⟩ = some (.bool true) := by have := D0.out.rd.cell 1; rw [hbad] at this; exact this
          clear hbad NN
          by_cases hlt : q < dm S
          all_goals
            go_wp2_with (refine wpList_store_row rfl 29 _ _ rfl w.heap.size (Rc.zero.cs nil_ nil_) rfl rfl 29 _ D0.out.res (by kernel_rfl) rfl (by simp [Value.oneCell', Rc.cs, nil_]) ?_)
            refine bodyPost_ret (r6_results _ _ w.heap.size (Rc.zero.cs nil_ nil_) (setRow_heap _ _ _ _ _ _ D0.out.res) rfl rfl) rfl ?_
            have h := D0.out.bel
            exact .inr ⟨NO.out, rfl, ⟨h.os, h.tape, h.output, by simpa [World.setRow] using h.size, fun i hi => (setRow_other _ _ _ _ (by omega)).trans (h.block i hi)⟩⟩
        have hbf : st.isNone = false := Bool.eq_false_iff.2 hbad
        have x1 : wr.cell? ⟨w.heap.size + 1, 1, none⟩ = some (.bool false) := by have := D0.out.rd.cell 1; rw [hbf] at this; exact this
        have HBF := Lib.hid hbf
        clear hbad hbf NN
        by_cases hlt : q < dm S
        · have HLT := Lib.hid hlt
          have hq6 : q < 256 := by have := HM.out; omega
          have D1 := Lib.hid (D0.out.alloc (.cells #[.int .i64 0, .int .i64 0, .int .i64 0] 54)); have O1 := Lib.hid (O0.out.alloc (.cells #[.int .i64 0, .int .i64 0, .int .i64 0] 54)); have P1 := Lib.hid (P0.out.alloc (.cells #[.int .i64 0, .int .i64 0, .int .i64 0] 54))
          have K1 := Lib.hid (Bk.new wr 54 #[.int .i64 0, .int .i64 0, .int .i64 0])
          have HL := Lib.hid D0.out.ro.lt
          have LO := Lib.hid (fun k hk => (O0.out.lt k hk).2); have LP := Lib.hid (fun k hk => (P0.out.lt k hk).2)
          go_wp2_with fail
          generalize wr.alloc (.cells #[.int .i64 0, .int .i64 0, .int .i64 0] 54) = a1 at *
          generalize wr.heap.size = l at *
          clear x1 D0 O0 P0
          refine (r6num4 (w.heap.size + 1) st a1 D1.out.rd Y0.out).mono ?_
          rintro e v2 ⟨rfl, r1, g1⟩
          have Y1 := Lib.hid (Nat.le_trans (rnx_size st 4) Y0.out)
          have D2 := Lib.hid (D1.out.grown r1 g1); have O2 := Lib.hid (owns_grown O1.out g1 (by omega)); have P2 := Lib.hid (owns_grown P1.out g1 (by omega)); have K2 := Lib.hid (K1.out.grown g1 (by have := HL.out; simp; omega))
          have x : v2.cell? ⟨l, 0, none⟩ = some (.int .i64 0) := K2.out.cell 0
          have y := K2.out.fz 0
          clear r1 g1 D1 O1 P1 K1
          generalize rint st 4 = aa at *
          generalize rnx st 4 = st1 at *
          have D3 := Lib.hid (D2.out.far (p := ⟨l, 0, none⟩) (by have := HL.out; show w.heap.size + 2 < l; omega) (.int .i64 aa)); have O3 := Lib.hid (owns_of_block O2.out (w' := v2.setCell ⟨l, 0, none⟩ (.int .i64 aa)) (fun k hk => Below.heap_setCell _ _ _ k (by have := LO.out k hk; show k ≠ l; omega))); have P3 := Lib.hid (owns_of_block P2.out (w' := v2.setCell ⟨l, 0, none⟩ (.int .i64 aa)) (fun k hk => Below.heap_setCell _ _ _ k (by have := LP.out k hk; show k ≠ l; omega)))
          have K3 := Lib.hid (show Bk (v2.setCell ⟨l, 0, none⟩ (.int .i64 aa)) l 54 #[.int .i64 aa, .int .i64 0, .int .i64 0] from K2.out.set 0 _)
          go_wp2_with fail
          clear x y D2 O2 P2 K2
          generalize v2.setCell ⟨l, 0, none⟩ (.int .i64 aa) = u3 at *
          refine (r6num8 (w.heap.size + 1) st1 u3 D3.out.rd Y1.out).mono ?_
          rintro e v4 ⟨rfl, r1, g1⟩
          have Y2 := Lib.hid (Nat.le_trans (rnx_size st1 8) Y1.out)
          have D4 := Lib.hid (D3.out.grown r1 g1); have O4 := Lib.hid (owns_grown O3.out g1 (by omega)); have P4 := Lib.hid (owns_grown P3.out g1 (by omega)); have K4 := Lib.hid (K3.out.grown g1 (by have := HL.out; simp; omega))
          have x : v4.cell? ⟨l, 1, none⟩ = some (.int .i64 0) := K4.out.cell 1
          have y := K4.out.fz 1
          clear r1 g1 D3 O3 P3 K3
          generalize sint st1 8 = bb at *
          generalize rnx st1 8 = st2 at *
          have D5 := Lib.hid (D4.out.far (p := ⟨l, 1, none⟩) (by have := HL.out; show w.heap.size + 2 < l; omega) (.int .i64 bb)); have O5 := Lib.hid (owns_of_block O4.out (w' := v4.setCell ⟨l, 1, none⟩ (.int .i64 bb)) (fun k hk => Below.heap_setCell _ _ _ k (by have := LO.out k hk; show k ≠ l; omega))); have P5 := Lib.hid (owns_of_block P4.out (w' := v4.setCell ⟨l, 1, none⟩ (.int .i64 bb)) (fun k hk => Below.heap_setCell _ _ _ k (by have := LP.out k hk; show k ≠ l; omega)))
          have K5 := Lib.hid (show Bk (v4.setCell ⟨l, 1, none⟩ (.int .i64 bb)) l 54 #[.int .i64 aa, .int .i64 bb, .int .i64 0] from K4.out.set 1 _)
          go_wp2_with fail
          clear x y D4 O4 P4 K4
          generalize v4.setCell ⟨l, 1, none⟩ (.int .i64 bb) = u5 at *
          refine (r6num8 (w.heap.size + 1) st2 u5 D5.out.rd Y2.out).mono ?_
          rintro e v6 ⟨rfl, r1, g1⟩
          have Y3 := Lib.hid (Nat.le_trans (rnx_size st2 8) Y2.out)
          have D6 := Lib.hid (D5.out.grown r1 g1); have O6 := Lib.hid (owns_grown O5.out g1 (by omega)); have P6 := Lib.hid (owns_grown P5.out g1 (by omega)); have K6 := Lib.hid (K5.out.grown g1 (by have := HL.out; simp; omega))
          have x : v6.cell? ⟨l, 2, none⟩ = some (.int .i64 0) := K6.out.cell 2
          have y := K6.out.fz 2
          clear r1 g1 D5 O5 P5 K5
          generalize sint st2 8 = cc at *
          generalize rnx st2 8 = st3 at *
          have D7 := Lib.hid (D6.out.far (p := ⟨l, 2, none⟩) (by have := HL.out; show w.heap.size + 2 < l; omega) (.int .i64 cc)); have O7 := Lib.hid (owns_of_block O6.out (w' := v6.setCell ⟨l, 2, none⟩ (.int .i64 cc)) (fun k hk => Below.heap_setCell _ _ _ k (by have := LO.out k hk; show k ≠ l; omega))); have P7 := Lib.hid (owns_of_block P6.out (w' := v6.setCell ⟨l, 2, none⟩ (.int .i64 cc)) (fun k hk => Below.heap_setCell _ _ _ k (by have := LP.out k hk; show k ≠ l; omega)))
          have K7 := Lib.hid (show Bk (v6.setCell ⟨l, 2, none⟩ (.int .i64 cc)) l 54 #[.int .i64 aa, .int .i64 bb, .int .i64 cc] from K6.out.set 2 _)
          have x12' : v6.cell? ⟨w.heap.size + 2, 12, none⟩ = some vl := D6.out.ro.cell 12
          have w0 : v6.cell? ⟨l, 0, none⟩ = some (.int .i64 aa) := K6.out.cell 0
          have w1 : v6.cell? ⟨l, 1, none⟩ = some (.int .i64 bb) := K6.out.cell 1
          have nl : w.heap.size + 2 ≠ l := by have := HL.out; omega
          have D8 := Lib.hid (D7.out.alloc (.cells #[.int .i64 aa, .int .i64 bb, .int .i64 cc] 54)); have O8 := Lib.hid (O7.out.alloc (.cells #[.int .i64 aa, .int .i64 bb, .int .i64 cc] 54)); have P8 := Lib.hid (P7.out.alloc (.cells #[.int .i64 aa, .int .i64 bb, .int .i64 cc] 54))
          have SZ6 := Lib.hid (show w.heap.size + 2 < v6.heap.size from D6.out.ro.lt)
          go_wp2_with (at_builtin; refine wpList_append_one _ rfl _ _ 27 rfl (w.heap.size + 3) 54 j0 (.agg #[.int .i64 0, .int .i64 0, .int .i64 0]) 3 24 Try.underlying27 gi gz0 gz1 gz2 rfl vl q (alL (sal (d9 S)) q) rfl P8.out ⟨v6.heap.size, 0, none⟩ 1 [.int .i64 aa, .int .i64 bb, .int .i64 cc] rfl rfl ?qc2 ?qc3 ?qc4 (by omega) ?qc5 ?qc6 ?_)
          case qc2 =>
            intro z xx hx
            have hn := (Bk.new (v6.setCell ⟨l, 2, none⟩ (.int .i64 cc)) 54 #[.int .i64 aa, .int .i64 bb, .int .i64 cc]).cell z
            rw [show (v6.setCell ⟨l, 2, none⟩ (.int .i64 cc)).heap.size = v6.heap.size by simp [World.setCell]] at hn
            rw [Addr.add_lit, Nat.zero_add]
            refine Eq.trans hn ?_
            simpa using hx
          case qc3 => simp [Value.oneCell']
          case qc4 => have := HM.out; have := HLT.out; unfold maxLen; omega
          case qc5 => have := HM.out; have := HLT.out; omega
          case qc6 => have := SZ6.out; simp [World.setCell]; omega
          intro v' w9 hown hgrow
          obtain ⟨la, lc, rfl⟩ := owns_slice hown
          have D9 := Lib.hid (D8.out.row hgrow (fun k hk => by have := (P8.out.lt k hk).1; omega))
          have O9 := Lib.hid (owns_of_block O8.out (w' := w9) (fun k hk => hgrow.block k (O8.out.lt k hk).2 (fun e => by
            obtain ⟨_, _, c1, hc1⟩ := owns_blk O8.out hk
            obtain ⟨_, _, c2, hc2⟩ := owns_blk P8.out e.symm
            exact absurd rfl (hc1.ne_ hc2 (by decide)))))
          rw [← ALS.out] at hown
          have P9 := Lib.hid hown
          have z12 : w9.cell? ⟨w.heap.size + 2, 12, none⟩ = some vl := D9.out.ro.cell 12
          have y12 := D9.out.ro.fz 12
          clear x12' w0 w1 x y hown hgrow D8 O8 P8 D7 O7 P7 K7 D6 O6 P6 K6
          have D10 := Lib.hid (show DJ w ((Rc.sf S).cs vi (.slice la (q + 1) lc)) (lst (d9 S) (q + 1)) (w9.setCell ⟨w.heap.size + 2, 12, none⟩ (.slice la (q + 1) lc)) from by rw [NX.out]; exact D9.out.set 12 _)
          have O10 := Lib.hid (owns_far O9.out (p := ⟨w.heap.size + 2, 12, none⟩) (Nat.lt_succ_self (w.heap.size + 2)) (.slice la (q + 1) lc))
          have P10 := Lib.hid (owns_far P9.out (p := ⟨w.heap.size + 2, 12, none⟩) (Nat.lt_succ_self (w.heap.size + 2)) (.slice la (q + 1) lc))
          go_wp2
          go_roundw
          case rel => exact ⟨q + 1, .slice la (q + 1) lc, by have := HLT.out; omega, by go_num, D10.out, O10.out, P10.out⟩
          case measure => have := HLT.out; simp [intOf]; omega
        · obtain rfl : q = dm S := by omega
          have IMA := Lib.hid (im_own O0.out (by have := HN.out; unfold maxLen; omega))
          have ALA := Lib.hid (al_own P0.out (by have := HM.out; unfold maxLen; omega))
          have DZZ := Lib.hid (DZ.out rfl)
          cases st with
          | none => have := HBF.out; cases this
          | some R =>
            have x0 : wr.cell? ⟨w.heap.size + 1, 0, none⟩ = some (.string R) := D0.out.rd.cell 0
            by_cases hR : R = ⟨#[]⟩
            · subst hR
              have CK := Lib.hid (rright6_any (Rc.sf S) vi vl wr IMA.out ALA.out)
              have TOK : True := trivial
              go_wp2_with (have _t := TOK; refine wpList_load_part 29 _ rfl (by first | rfl | kernel_rfl) (w.heap.size + 2) 0 _ rfl (rec_load D0.out.ro rfl) ?_; clear TOK _t)
              refine CK.out.mono ?_
              rintro e v12 ⟨⟨rfl, hok⟩ | ⟨rfl, hno⟩, hb⟩
              · have YES := Lib.hid (show decOk S from ⟨G0.out, DZZ.out, (sf_ok S).1 hok⟩)
                have D12 := Lib.hid (D0.out.kept hb)
                have IMB := Lib.hid ((IMA.out.below hb (Nat.le_refl _)).mono hb.size); have ALB := Lib.hid ((ALA.out.below hb (Nat.le_refl _)).mono hb.size)
                have O12 := Lib.hid (owns_kept O0.out hb); have P12 := Lib.hid (owns_kept P0.out hb)
                clear hok hb D0 CK x0 x1
                have T1 : True := trivial
                generalize hL : (Rc.sf S).cs vi vl = cs at *
                have hL14 : cs.toList.length = 14 := by rw [← hL]; rfl
                have hLs : cs.size = 14 := by rw [← hL]; rfl
                have OC := Lib.hid (rec_cells14 hL IMB.out ALB.out)
                have HL := Lib.hid hL
                clear hL
                go_wp2_with (first
                  | (have _t := T1; refine wpList_load_part 29 _ rfl (by first | rfl | kernel_rfl) (w.heap.size + 2) 0 cs rfl (rec_load D12.out.ro hL14) ?_; clear T1 _t; have T2 : True := trivial)
                  | (have _t := T2; refine wpList_store_row rfl 29 _ _ rfl w.heap.size cs rfl rfl 29 _ D12.out.res (by rw [hLs]; kernel_rfl) (by rw [hLs]; rfl) OC.out ?_; clear T2 _t))
                refine bodyPost_ret (r6_results _ _ w.heap.size cs (setRow_heap _ _ _ _ _ _ D12.out.res) hL14 rfl) rfl ?_
                have h := D12.out.bel
                refine .inl ⟨vi, vl, YES.out, ?_, ?_, ?_, ⟨h.os, h.tape, h.output, by simpa [World.setRow] using h.size, fun i hi => (setRow_other _ _ _ _ (by omega)).trans (h.block i hi)⟩⟩
                · rw [HL.out]; rfl
                · exact im_own (owns_of_block O12.out (fun k hk => setRow_other _ _ _ _ (by have := (O12.out.lt k hk).1; omega))) (by have := HN.out; unfold maxLen; show dn S ≤ _; omega)
                · exact al_own (owns_of_block P12.out (fun k hk => setRow_other _ _ _ _ (by have := (P12.out.lt k hk).1; omega))) (by have := HM.out; unfold maxLen; show dm S ≤ _; omega)
              · have NO := Lib.hid (show ¬ decOk S from fun h => hno ((sf_ok S).2 h.2.2))
                have D12 := Lib.hid (D0.out.kept hb)
                clear hno hb D0 x0 x1
                go_wp2_with (refine wpList_store_row rfl 29 _ _ rfl w.heap.size (Rc.zero.cs nil_ nil_) rfl rfl 29 _ D12.out.res (by kernel_rfl) rfl (by simp [Value.oneCell', Rc.cs, nil_]) ?_)
                refine bodyPost_ret (r6_results _ _ w.heap.size (Rc.zero.cs nil_ nil_) (setRow_heap _ _ _ _ _ _ D12.out.res) rfl rfl) rfl ?_
                have h := D12.out.bel
                exact .inr ⟨NO.out, rfl, ⟨h.os, h.tape, h.output, by simpa [World.setRow] using h.size, fun i hi => (setRow_other _ _ _ _ (by omega)).trans (h.block i hi)⟩⟩
            · have NO := Lib.hid (show ¬ decOk S from fun h => by have h2 := h.2.1; rw [DZZ.out] at h2; injection h2 with h2; exact hR h2)
              have hne : R.toList.isEmpty = false := by rw [ba_empty]; exact decide_eq_false hR
              have hne2 : R.toList ≠ [] := by intro e; rw [e] at hne; cases hne
              clear hR
              go_wp2_with (refine wpList_store_row rfl 29 _ _ rfl w.heap.size (Rc.zero.cs nil_ nil_) rfl rfl 29 _ D0.out.res (by kernel_rfl) rfl (by simp [Value.oneCell', Rc.cs, nil_]) ?_)
              refine bodyPost_ret (r6_results _ _ w.heap.size (Rc.zero.cs nil_ nil_) (setRow_heap _ _ _ _ _ _ D0.out.res) rfl rfl) rfl ?_
              have h := D0.out.bel
              exact .inr ⟨NO.out, rfl, ⟨h.os, h.tape, h.output, by simpa [World.setRow] using h.size, fun i hi => (setRow_other _ _ _ _ (by omega)).trans (h.block i hi)⟩⟩
end Go.Proofs.Ytggabnmfjooejaa
