/- The walk of waits.Digests. -/
import Derived.Test.YtehifnkpmhbimaaWtSpread
import Derived.Deep.LoopGhost
set_option linter.unusedVariables false
set_option linter.unusedSimpArgs false
namespace Go.Proofs.Ytehifnkpmhbimaa
open Go.RowKit

theorem fine_of {n : Nat} {A : Arcs} (hn : n ≤ 64) (hA : A.In n) : Fine n A.m (fun i => A.s i) (fun i => A.t i) :=
  ⟨by omega, by omega, fun i hi => by have := hA i hi; show 0 ≤ ((A.s i : Nat) : Int) ∧ ((A.s i : Nat) : Int) < (n : Int) ∧ 0 ≤ ((A.t i : Nat) : Int) ∧ ((A.t i : Nat) : Int) < (n : Int); omega⟩
theorem zeros_row (w : World) (n : Nat) (k : IntKind) (ty : TypeId) : Row (w.alloc (.cells (madeCells #[Value.int k 0] n) ty)) (w.alloc (.cells (madeCells #[Value.int k 0] n) ty)).heap.size k (.slice (some ⟨w.heap.size, 0, none⟩) n n) n (fun i => ((0 : Nat) : Int)) :=
  ⟨_, n, rfl, (fun e => by cases e), fun _ => ⟨w.heap.size, 0, rfl, by simp, fun i hi => by
    rw [Nat.zero_add, (Bk.new w ty _).cell i]
    simp [madeCells, hi, Nat.mod_one]⟩⟩

set_option maxHeartbeats 2000000 in
theorem digests_good (va : Value) (n : Nat) (A : Arcs) (w : World) (hn : n ≤ 64) (ha : IsArcs w w.heap.size va A) (hA : A.In n) :
    Calls Try.prog 10 #[.int .i64 n, va] w fun e w' => ∃ v', e = .returned (.tuple #[v', .int .i64 0]) ∧ Row w' w'.heap.size .u64 v' n (fun i => (A.it n i : Nat)) ∧ Below w.heap.size w w' := by
  have cc := check_any n va A.m (fun i => A.s i) (fun i => A.t i) w (by omega) (by omega) ha
  have sp := fun (w' : World) (v : Value) (r : Nat) (hb : Below w.heap.size w w') (hv : Row w' w'.heap.size .u64 v n (fun i => (A.it r i : Nat))) =>
    spread_good v va n (A.it r) A w' hn (fun j hj => A.it_lt hA hn r j hj) hv ((ArcI.below ha hb (Nat.le_refl _)).mono hb.size) hA
  have eq := fun (w' : World) (v u : Value) (r : Nat) (hv : Row w' w'.heap.size .u64 v n (fun i => (A.sp (A.it r) A.m i : Nat))) (hu : Row w' w'.heap.size .u64 u n (fun i => (A.it r i : Nat))) =>
    equal_any v u n n _ _ w' hv hu (by unfold maxLen; omega)
  obtain ⟨i0, hi, hz0, hz1, hz2⟩ := info_parts Try.info41
  have hmk := fun wx => run_make (P := Try.prog) wx 24 41 i0 (.int .u64 0) Try.underlying24 hi hz0 .i64 .i64 n n (by omega) (by omega) (by rw [hz2]; omega) (by omega)
  simp only [hz1, Nat.mul_one, Value.cells, Int.toNat_natCast] at hmk
  have HA := Lib.hid hA; have CC := Lib.hid cc; have FI := Lib.hid (fine_of hn hA); have SP := Lib.hid sp; have EQ := Lib.hid eq
  clear cc hA sp eq ha hi hz0 hz1 hz2
  go_enter Try.func10, Try.ntmps10
  go_wp2_with fail
  refine CC.out.mono ?_
  rintro e w1 ⟨⟨rfl, _⟩ | ⟨_, hbad⟩, hb1⟩
  · have S0 := Lib.hid (zeros_row w1 n .u64 41)
    have B0 := Lib.hid (hb1.alloc hb1.size (.cells (madeCells #[Value.int .u64 0] n) 41))
    clear hb1 CC FI
    go_wp2_with fail
    clear hmk
    generalize w1.alloc (.cells (madeCells #[Value.int .u64 0] n) 41) = w2 at *
    go_loopg [7] n (fun gk d wr => ∃ r, r + gk = n ∧ Row wr wr.heap.size .u64 d n (fun i => (A.it r i : Nat)) ∧ Below w.heap.size w wr)
    case atStart => exact ⟨0, by omega, S0.out, B0.out⟩
    case round =>
      clear S0 B0
      obtain ⟨r, hr, hrow, hb⟩ := hrel
      have SP1 := Lib.hid (SP.out wr _ r hb hrow); have HB := Lib.hid hb; have HROW := Lib.hid hrow; have HR := Lib.hid hr
      clear hb hrow SP hr
      go_wp2_with fail
      refine SP1.out.mono ?_
      rintro e w3 ⟨v', rfl, hrow', hb3⟩
      have R3 := Lib.hid (HROW.out.below hb3 (Nat.le_refl _) |>.mono hb3.size)
      have EQ1 := Lib.hid (EQ.out w3 _ _ r hrow' R3.out); have HB3 := Lib.hid (below_then HB.out hb3 HB.out.size); have ROW3 := Lib.hid hrow'
      clear hrow' hb3 EQ SP1 HROW HB
      go_wp2_with fail
      refine EQ1.out.mono ?_
      rintro e w4 ⟨⟨rfl, hal⟩ | ⟨rfl, hal⟩, hb4⟩
      · have HB4 := Lib.hid (below_then HB3.out hb4 HB3.out.size)
        have R4 := Lib.hid ((R3.out.below hb4 (Nat.le_refl _) |>.mono hb4.size).congr fun i hi => by
          have h := A.it_end HA.out (r := r) (by have := HR.out; omega) (fun j hj => by have h1 : ((A.sp (A.it r) A.m j : Nat) : Int) = ((A.it r j : Nat) : Int) := hal.2 j hj; show A.sp (A.it r) A.m j = A.it r j; omega) i hi
          show ((A.it r i : Nat) : Int) = ((A.it n i : Nat) : Int)
          rw [h])
        clear hb4 hal EQ1 HB3 ROW3 R3
        go_wp2
        go_ret2
        exact ⟨_, rfl, R4.out, HB4.out⟩
      · have HB4 := Lib.hid (below_then HB3.out hb4 HB3.out.size)
        have R4 := Lib.hid (ROW3.out.below hb4 (Nat.le_refl _) |>.mono hb4.size)
        have LT := Lib.hid (show r < n by
          rcases Nat.lt_or_ge r n with h | h
          · exact h
          · refine absurd ⟨rfl, fun j hj => ?_⟩ hal
            have := A.it_step HA.out h j hj
            show ((A.sp (A.it r) A.m j : Nat) : Int) = ((A.it r j : Nat) : Int)
            rw [show A.sp (A.it r) A.m j = A.it (r + 1) j from rfl, this])
        clear hb4 hal EQ1 HB3 ROW3 R3
        go_wp2
        go_roundg (gk - 1)
        case measure => have := LT.out; have := HR.out; omega
        case rel => exact ⟨r + 1, by have := LT.out; have := HR.out; omega, R4.out, HB4.out⟩
  · exact absurd FI.out hbad

set_option maxHeartbeats 1000000 in
theorem digests_bad (va : Value) (n : Int) (m : Nat) (s t : Nat → Int) (w : World) (h0 : -9223372036854775808 ≤ n) (h1 : n ≤ 9223372036854775807) (ha : ArcI w w.heap.size va m s t) (hf : ¬ Fine n m s t) :
    Calls Try.prog 10 #[.int .i64 n, va] w fun e w' => e = .returned (.tuple #[.slice none 0 0, .int .i64 1]) ∧ Below w.heap.size w w' := by
  have cc := check_any n va m s t w h0 h1 ha
  have CC := Lib.hid cc; have HF := Lib.hid hf
  clear cc hf
  go_enter Try.func10, Try.ntmps10
  go_wp2_with fail
  refine CC.out.mono ?_
  rintro e w1 ⟨⟨rfl, h⟩ | ⟨rfl, _⟩, hb1⟩
  · exact absurd h HF.out
  · go_wp2
    go_ret2
    exact ⟨rfl, hb1⟩
end Go.Proofs.Ytehifnkpmhbimaa
