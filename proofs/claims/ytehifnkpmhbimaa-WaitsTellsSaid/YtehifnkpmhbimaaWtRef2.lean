/- The walks of the document's own Digests and Circle. -/
import Derived.Test.YtehifnkpmhbimaaWtRef
import Derived.Test.YtehifnkpmhbimaaWtCirc2
import Derived.Test.YtehifnkpmhbimaaWtDig
set_option linter.unusedVariables false
set_option linter.unusedSimpArgs false
namespace Go.Proofs.Ytehifnkpmhbimaa
open Go.RowKit

theorem or2 {a k : Nat} (ha : a < 18446744073709551616) (hk : k < 64) : bits .or .u64 (a : Int) (IntKind.u64.wrap (2 ^ k)) = ((a ||| 2 ^ k : Nat) : Int) ∧ a ||| 2 ^ k < 18446744073709551616 := by
  have h2 : 2 ^ k < 18446744073709551616 := Nat.pow_lt_pow_right (m := k) (n := 64) (by omega) (by omega)
  have e : IntKind.u64.wrap (2 ^ k) = ((2 ^ k : Nat) : Int) := by
    rw [IntKind.wrap_u64]
    have : ((2 : Int) ^ k) = ((2 ^ k : Nat) : Int) := by simp
    rw [this]
    generalize 2 ^ k = p at h2
    omega
  rw [e, bits_or_u64_nat a (2 ^ k) ha h2]
  exact ⟨rfl, Nat.or_lt_two_pow (n := 64) ha h2⟩

/-- A row of digests of its own. -/
structure Fu (w : World) (g n : Nat) (f : Nat → Nat) : Prop where
  at_ : ∃ ty cur, Bk w g ty cur ∧ ∀ i, i < n → cur[i]? = some (.int .u64 (f i : Nat))
theorem Fu.kept {w w' : World} {g n : Nat} {f : Nat → Nat} (h : Fu w g n f) (hb : Below w.heap.size w w') : Fu w' g n f := by
  obtain ⟨ty, cur, h1, h2⟩ := h.at_
  exact ⟨ty, cur, h1.kept hb, h2⟩
theorem Fu.cell {w : World} {g n : Nat} {f : Nat → Nat} (h : Fu w g n f) {i : Nat} (hi : i < n) : w.cell? ⟨g, i, none⟩ = some (.int .u64 (f i : Nat)) := by
  obtain ⟨ty, cur, h1, h2⟩ := h.at_
  rw [h1.cell]; exact h2 i hi
theorem Fu.fz {w : World} {g n : Nat} {f : Nat → Nat} (h : Fu w g n f) (i : Nat) : w.frozen? ⟨g, i, none⟩ = false := by
  obtain ⟨ty, cur, h1, h2⟩ := h.at_
  exact h1.fz i
theorem Fu.lt {w : World} {g n : Nat} {f : Nat → Nat} (h : Fu w g n f) : g < w.heap.size := by
  obtain ⟨ty, cur, h1, h2⟩ := h.at_
  exact h1.lt
theorem Fu.set {w : World} {g n : Nat} {f : Nat → Nat} (h : Fu w g n f) {k : Nat} (hk : k < n) (v : Nat) : Fu (w.setCell ⟨g, k, none⟩ (.int .u64 (v : Nat))) g n (upd f k v) := by
  obtain ⟨ty, cur, h1, h2⟩ := h.at_
  refine ⟨ty, _, h1.set _ _, fun i hi => ?_⟩
  rw [Array.getElem?_setIfInBounds]
  have hc := h2 i hi
  have hsz : i < cur.size := by
    rcases Nat.lt_or_ge i cur.size with h | h
    · exact h
    · rw [Array.getElem?_eq_none h] at hc; cases hc
  unfold upd
  by_cases e : k = i
  · subst e; simp [hsz]
  · rw [if_neg e, if_neg (fun e' => e e'.symm)]; exact hc

/-- What stands of the digests: all of those below x, and of x what i arcs tell. -/
structure Dg (A : Arcs) (n x i : Nat) (f : Nat → Nat) : Prop where
  lt : ∀ j, j < n → f j < 18446744073709551616
  bit : ∀ j, j < n → ∀ y, (f j).testBit y = true ↔ (y < x ∧ (A.it n j).testBit y = true) ∨ (y = x ∧ ∃ q, q < i ∧ A.s q = j ∧ A.ds n x (A.t q) < n)
theorem Dg.start (A : Arcs) (n : Nat) : Dg A n 0 0 (fun _ => 0) := ⟨fun _ _ => by simp, fun j hj y => by
  rw [Nat.zero_testBit]
  constructor
  · intro h; cases h
  · rintro (⟨h, _⟩ | ⟨_, q, h, _⟩) <;> omega⟩
theorem Dg.skip {A : Arcs} {n x i : Nat} {f : Nat → Nat} (h : Dg A n x i f) (hd : ¬ A.ds n x (A.t i) < n) : Dg A n x (i + 1) f := ⟨h.lt, fun j hj y => by
  rw [h.bit j hj y]
  constructor
  · rintro (h1 | ⟨h1, q, h2, h3⟩)
    · exact .inl h1
    · exact .inr ⟨h1, q, by omega, h3⟩
  · rintro (h1 | ⟨h1, q, h2, h3, h4⟩)
    · exact .inl h1
    · refine .inr ⟨h1, q, ?_, h3, h4⟩
      rcases Nat.lt_or_ge q i with h5 | h5
      · exact h5
      · obtain rfl : q = i := by omega
        exact absurd h4 hd⟩
theorem Dg.take {A : Arcs} {n x i : Nat} {f : Nat → Nat} (h : Dg A n x i f) (hx : x < 64) (hs : A.s i < n) (hd : A.ds n x (A.t i) < n) : Dg A n x (i + 1) (upd f (A.s i) (f (A.s i) ||| 2 ^ x)) := by
  refine ⟨fun j hj => ?_, fun j hj y => ?_⟩
  · unfold upd; split
    · exact (or2 (h.lt _ hs) hx).2
    · exact h.lt j hj
  · unfold upd
    by_cases e : j = A.s i
    · rw [if_pos e, Nat.testBit_or, Bool.or_eq_true, ← e, h.bit j hj y, Nat.testBit_two_pow, decide_eq_true_iff]
      constructor
      · rintro ((h1 | ⟨h1, q, h2, h3⟩) | h1)
        · exact .inl h1
        · exact .inr ⟨h1, q, by omega, h3⟩
        · exact .inr ⟨h1.symm, i, by omega, e.symm, hd⟩
      · rintro (h1 | ⟨h1, q, h2, h3⟩)
        · exact .inl (.inl h1)
        · exact .inr h1.symm
    · rw [if_neg e, h.bit j hj y]
      constructor
      · rintro (h1 | ⟨h1, q, h2, h3⟩)
        · exact .inl h1
        · exact .inr ⟨h1, q, by omega, h3⟩
      · rintro (h1 | ⟨h1, q, h2, h3, h4⟩)
        · exact .inl h1
        · refine .inr ⟨h1, q, ?_, h3, h4⟩
          rcases Nat.lt_or_ge q i with h5 | h5
          · exact h5
          · obtain rfl : q = i := by omega
            exact absurd h3.symm e
theorem Dg.next {A : Arcs} {n x : Nat} {f : Nat → Nat} (h : Dg A n x A.m f) (hA : A.In n) (hx : x < n) : Dg A n (x + 1) 0 f := ⟨h.lt, fun j hj y => by
  rw [h.bit j hj y]
  constructor
  · rintro (⟨h1, h2⟩ | ⟨rfl, h2⟩)
    · exact .inl ⟨by omega, h2⟩
    · exact .inl ⟨by omega, (A.it_ds hA (by omega) j y hx).2 h2⟩
  · rintro (⟨h1, h2⟩ | ⟨_, q, h2, _⟩)
    · rcases Nat.lt_or_ge y x with h3 | h3
      · exact .inl ⟨h3, h2⟩
      · obtain rfl : y = x := by omega
        exact .inr ⟨rfl, (A.it_ds hA (by omega) j y hx).1 h2⟩
    · omega⟩
theorem Dg.done {A : Arcs} {n : Nat} {f : Nat → Nat} (h : Dg A n n 0 f) (hA : A.In n) (j : Nat) (hj : j < n) : f j = A.it n j := by
  apply Nat.eq_of_testBit_eq
  intro y
  rw [Bool.eq_iff_iff, h.bit j hj y]
  constructor
  · rintro (⟨_, h2⟩ | ⟨_, q, h2, _⟩)
    · exact h2
    · omega
  · intro h2
    exact .inl ⟨A.it_bit_lt hA _ _ _ h2, h2⟩

set_option maxHeartbeats 4000000 in
theorem rdigests_good (va : Value) (n : Nat) (A : Arcs) (w : World) (hn : n ≤ 64) (ha : IsArcs w w.heap.size va A) (hA : A.In n) :
    Calls Try.prog 11 #[.int .i64 n, va] w fun e w' => ∃ v', e = .returned (.tuple #[v', .int .i64 0]) ∧ Row w' w'.heap.size .u64 v' n (fun i => (A.it n i : Nat)) ∧ Below w.heap.size w w' := by
  have cc := wrong_any n va A.m (fun i => A.s i) (fun i => A.t i) w (by omega) (by omega) ha
  have CR := Lib.hid (fun (w' : World) (hb : Below w.heap.size w w') x (hx : x < n) => reach_any va n x A w' hn hx ((ArcI.below ha hb (Nat.le_refl _)).mono hb.size) hA)
  have HA := Lib.hid hA; have CC := Lib.hid cc; have FI := Lib.hid (fine_of hn hA)
  obtain ⟨i0, hi, hz0, hz1, hz2⟩ := info_parts Try.info41
  have hmk := fun wx => run_make (P := Try.prog) wx 24 41 i0 (.int .u64 0) Try.underlying24 hi hz0 .i64 .i64 n n (by omega) (by omega) (by rw [hz2]; omega) (by omega)
  simp only [hz1, Nat.mul_one, Value.cells, Int.toNat_natCast] at hmk
  obtain ⟨a', c', rfl, hm, ha⟩ := ha
  have HR := Lib.hid ha
  have hm' : A.m ≤ 9223372036854775807 := by simp only [maxLen] at hm; omega
  clear ha hm hA hi hz0 hz1 hz2 cc
  go_enter Try.func11, Try.ntmps11
  go_wp2_with fail
  refine CC.out.mono ?_
  rintro e w1 ⟨⟨rfl, _⟩ | ⟨_, hbad⟩, hb1⟩
  · have F0 := Lib.hid (show Fu (w1.alloc (.cells (madeCells #[Value.int .u64 0] n) 41)) w1.heap.size n (fun _ => 0) from ⟨_, _, Bk.new w1 _ _, fun i hi => by simp [madeCells, hi, Nat.mod_one]⟩)
    have B0 := Lib.hid (hb1.alloc hb1.size (.cells (madeCells #[Value.int .u64 0] n) 41))
    have SZ := Lib.hid hb1.size
    clear hb1 CC FI
    go_wp2_with fail
    clear hmk
    generalize w1.alloc (.cells (madeCells #[Value.int .u64 0] n) 41) = w2 at *
    go_loopw [7] (fun i wr => ∃ (x : Nat) (f : Nat → Nat), x ≤ n ∧ i = .int .i64 x ∧ Fu wr w1.heap.size n f ∧ Dg A n x 0 f ∧ Below w.heap.size w wr) (fun i _ => n - (intOf i).toNat)
    case atStart => exact ⟨0, _, Nat.zero_le _, rfl, F0.out, Dg.start A n, B0.out⟩
    case round =>
      clear F0 B0
      obtain ⟨x, f, hx, rfl, hf, hdg, hb⟩ := hrel
      have FF := Lib.hid hf; have HB := Lib.hid hb; have DG := Lib.hid hdg
      clear hf hb hdg
      by_cases hlt : x < n
      · have CR1 := Lib.hid (CR.out wr HB.out x hlt)
        clear CR
        go_wp2_with fail
        refine CR1.out.mono ?_
        rintro e w3 ⟨rfl, hr3, hb3⟩
        have B3 := Lib.hid (below_then HB.out hb3 HB.out.size); have F3 := Lib.hid (FF.out.kept hb3); have R3 := Lib.hid hr3
        have NE := Lib.hid (show wr.heap.size ≠ w1.heap.size by have := FF.out.lt; omega)
        clear hb3 hr3 CR1 HB FF
        have hx64 : (x : Nat) < 64 := by omega
        go_wp2_with fail
        go_loopw [9] (fun i ws => ∃ (q : Nat) (f : Nat → Nat), q ≤ A.m ∧ i = .int .i64 q ∧ Fu ws w1.heap.size n f ∧ Dg A n x q f ∧ Fi ws wr.heap.size n (rd A n x) ∧ Below w.heap.size w ws) (fun i _ => A.m - (intOf i).toNat)
        case atStart => exact ⟨0, f, Nat.zero_le _, rfl, F3.out, DG.out, R3.out, B3.out⟩
        case round =>
          clear F3 DG R3 B3
          rename_i wo _ _
          obtain ⟨q, f, hq, rfl, hf, hdg, hr, hb⟩ := hrel
          have FF := Lib.hid hf; have HB := Lib.hid hb; have DG := Lib.hid hdg; have RR := Lib.hid hr
          clear hf hb hdg hr
          by_cases hlq : q < A.m
          · obtain ⟨hs, ht⟩ := HA.out q hlq
            obtain ⟨b, off, rfl, hbB, hcell⟩ := HR.out (by omega)
            have q0 : wr.cell? ⟨b, off + q * 2, none⟩ = some (.int .i64 (A.s q)) := by rw [HB.out.cell (p := ⟨b, off + q * 2, none⟩) hbB]; exact (hcell q hlq).1
            have q1 : wr.cell? ⟨b, off + q * 2 + 1, none⟩ = some (.int .i64 (A.t q)) := by rw [HB.out.cell (p := ⟨b, off + q * 2 + 1, none⟩) hbB]; exact (hcell q hlq).2
            have q1' : wr.cell? ⟨b, off + (q * 2 + 1), none⟩ = some (.int .i64 (A.t q)) := q1
            have z0 := RR.out.cell ht
            clear hcell
            by_cases hd : A.ds n x (A.t q) < n
            · have TK := Lib.hid (DG.out.take hx64 hs hd)
              have y0 := FF.out.cell hs; have y1 := FF.out.fz (A.s q)
              have NF := Lib.hid (FF.out.set hs (f (A.s q) ||| 2 ^ x)); have NB := Lib.hid (HB.out.setCell (p := ⟨w1.heap.size, A.s q, none⟩) SZ.out (.int .u64 ((f (A.s q) ||| 2 ^ x : Nat) : Int)))
              have NR := Lib.hid (show Fi (wr.setCell ⟨w1.heap.size, A.s q, none⟩ (.int .u64 ((f (A.s q) ||| 2 ^ x : Nat) : Int))) _ n (rd A n x) by
                obtain ⟨ty4, cur4, h4, h5⟩ := RR.out.at_
                exact ⟨ty4, cur4, h4.far NE.out _, h5⟩)
              have OR := Lib.hid (or2 (DG.out.lt _ hs) hx64).1
              unfold rd at z0
              rw [if_pos hd] at z0
              clear DG FF HB RR hd
              generalize A.s q = sk at *
              generalize A.t q = tk at *
              generalize A.ds n x tk = dd at *
              generalize f sk = fs at *
              go_wp2_with fail
              go_region
              rw [OR.out]
              go_wp2
              go_roundw
              case rel => exact ⟨q + 1, _, by omega, by go_num, NF.out.kept (Below.refl _ _).drew, TK.out, NR.out.kept (Below.refl _ _).drew, NB.out.drew⟩
              case measure => simp [intOf]; omega
            · have SK := Lib.hid (DG.out.skip hd)
              unfold rd at z0
              rw [if_neg hd] at z0
              clear DG hd
              generalize A.s q = sk at *
              generalize A.t q = tk at *
              go_wp2
              go_roundw
              case rel => exact ⟨q + 1, f, by omega, by go_num, FF.out, SK.out, RR.out, HB.out⟩
              case measure => simp [intOf]; omega
          · have NX := Lib.hid ((show Dg A n x A.m f by rw [show A.m = q by omega]; exact DG.out).next HA.out hlt)
            clear DG
            go_wp2
            go_roundw
            case rel => exact ⟨x + 1, f, by omega, by go_num, FF.out, NX.out, HB.out⟩
            case measure => simp [intOf]; omega
      · obtain rfl : x = n := by omega
        obtain ⟨ty3, cur3, hk3, hc3⟩ := FF.out.at_
        have FIN := Lib.hid (show Row wr wr.heap.size .u64 (.slice (some ⟨w1.heap.size, 0, none⟩) x x) x (fun i => (A.it x i : Nat)) from ⟨_, x, rfl, (fun e => by cases e), fun _ => ⟨w1.heap.size, 0, rfl, hk3.lt, fun i hi => by rw [Nat.zero_add, hk3.cell, hc3 i hi, DG.out.done HA.out i hi]⟩⟩)
        clear hk3 hc3
        go_wp2
        go_ret2
        exact ⟨_, rfl, FIN.out, HB.out⟩
  · exact absurd FI.out hbad
end Go.Proofs.Ytehifnkpmhbimaa
