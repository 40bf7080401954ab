/- The walks of waits.distances, nearest, Circle, Victim. -/
import Derived.Test.YtehifnkpmhbimaaWtCheck
import Derived.Test.YtehifnkpmhbimaaWtLib
import Derived.BigRegion
import Derived.BigQuiet
import Derived.Deep.QuietTactic
import Derived.Deep.LoopGhost
set_option linter.unusedVariables false
set_option linter.unusedSimpArgs false
namespace Go.Proofs.Ytehifnkpmhbimaa
open Go.RowKit

/-- All numbers below n together. -/
def tot (f : Nat → Nat) : Nat → Nat
  | 0 => 0
  | n + 1 => tot f n + f n
theorem tot_le {f g : Nat → Nat} (n : Nat) (h : ∀ j, j < n → f j ≤ g j) : tot f n ≤ tot g n := by
  induction n with
  | zero => exact Nat.le_refl _
  | succ n ih => have := ih fun j hj => h j (by omega); have := h n (by omega); simp only [tot]; omega
theorem tot_lt {f g : Nat → Nat} {n k : Nat} (h : ∀ j, j < n → f j ≤ g j) (hk : k < n) (hlt : f k < g k) : tot f n < tot g n := by
  induction n with
  | zero => omega
  | succ n ih =>
    simp only [tot]
    rcases Nat.lt_or_ge k n with hl | hl
    · have := ih (fun j hj => h j (by omega)) hl; have := h n (by omega); omega
    · obtain rfl : k = n := by omega
      have := tot_le k fun j hj => h j (by omega); omega
theorem tot_max {f : Nat → Nat} {n b : Nat} (h : ∀ j, j < n → f j ≤ b) : tot f n ≤ n * b := by
  induction n with
  | zero => simp [tot]
  | succ n ih =>
    have := ih fun j hj => h j (by omega)
    have := h n (by omega)
    simp only [tot]
    rw [Nat.add_mul]
    omega

/-- A row of numbers of its own, in block g. -/
structure Fr (w : World) (g n : Nat) (f : Nat → Nat) : Prop where
  at_ : ∃ ty cur, Bk w g ty cur ∧ ∀ i, i < n → cur[i]? = some (.int .i64 (f i : Nat))
theorem Fr.kept {w w' : World} {g n : Nat} {f : Nat → Nat} (h : Fr w g n f) (hb : Below w.heap.size w w') : Fr w' g n f := by
  obtain ⟨ty, cur, h1, h2⟩ := h.at_
  exact ⟨ty, cur, h1.kept hb, h2⟩
theorem Fr.cell {w : World} {g n : Nat} {f : Nat → Nat} (h : Fr w g n f) {i : Nat} (hi : i < n) : w.cell? ⟨g, i, none⟩ = some (.int .i64 (f i : Nat)) := by
  obtain ⟨ty, cur, h1, h2⟩ := h.at_
  rw [h1.cell]; exact h2 i hi
theorem Fr.fz {w : World} {g n : Nat} {f : Nat → Nat} (h : Fr w g n f) (i : Nat) : w.frozen? ⟨g, i, none⟩ = false := by
  obtain ⟨ty, cur, h1, h2⟩ := h.at_
  exact h1.fz i
theorem Fr.lt {w : World} {g n : Nat} {f : Nat → Nat} (h : Fr w g n f) : g < w.heap.size := by
  obtain ⟨ty, cur, h1, h2⟩ := h.at_
  exact h1.lt
def upd (f : Nat → Nat) (k v : Nat) : Nat → Nat := fun i => if i = k then v else f i
theorem Fr.set {w : World} {g n : Nat} {f : Nat → Nat} (h : Fr w g n f) {k : Nat} (hk : k < n) (v : Nat) : Fr (w.setCell ⟨g, k, none⟩ (.int .i64 (v : Nat))) g n (upd f k v) := by
  obtain ⟨ty, cur, h1, h2⟩ := h.at_
  refine ⟨ty, _, h1.set _ _, fun i hi => ?_⟩
  rw [Array.getElem?_setIfInBounds]
  have hc := h2 i hi
  have hsz : i < cur.size := by
    rcases Nat.lt_or_ge i cur.size with h | h
    · exact h
    · rw [Array.getElem?_eq_none h] at hc; cases hc
  unfold upd
  by_cases e : k = i
  · subst e; simp [hsz]
  · rw [if_neg e, if_neg (fun e' => e e'.symm)]; exact hc
theorem Fr.row {w : World} {g n : Nat} {f h' : Nat → Nat} (h : Fr w g n f) (cap : Nat) (he : ∀ i, i < n → f i = h' i) : Row w w.heap.size .i64 (.slice (some ⟨g, 0, none⟩) n cap) n (fun i => (h' i : Nat)) :=
  ⟨_, cap, rfl, (fun e => by cases e), fun _ => ⟨g, 0, rfl, h.lt, fun i hi => by rw [Nat.zero_add, h.cell hi, he i hi]⟩⟩

/-- What stands of distances while they are relaxed. -/
structure Rx (A : Arcs) (n x : Nat) (f : Nat → Nat) : Prop where
  self : f x = 0
  le : ∀ j, j < n → f j ≤ n
  real : ∀ j, j < n → f j < n → A.W x (f j) j = true
theorem Rx.start (A : Arcs) (n x : Nat) : Rx A n x (upd (fun _ => n) x 0) := by
  refine ⟨by simp [upd], fun j hj => by simp only [upd]; split <;> omega, fun j hj hl => ?_⟩
  unfold upd at hl ⊢
  by_cases e : j = x
  · subst e; simp [Arcs.W_self]
  · rw [if_neg e] at hl; exact absurd hl (Nat.lt_irrefl _)
theorem Rx.relax {A : Arcs} {n x : Nat} {f : Nat → Nat} (h : Rx A n x f) (hA : A.In n) {k : Nat} (hk : k < A.m) (hl : f (A.t k) + 1 < f (A.s k)) : Rx A n x (upd f (A.s k) (f (A.t k) + 1)) := by
  have hI := hA k hk
  have hs := h.le _ hI.1
  refine ⟨?_, fun j hj => ?_, fun j hj hl' => ?_⟩
  · unfold upd
    split
    · rename_i e; rw [← e, h.self] at hl; omega
    · exact h.self
  · unfold upd; split
    · omega
    · exact h.le j hj
  · unfold upd at hl' ⊢
    by_cases e : j = A.s k
    · rw [if_pos e]
      rw [Arcs.W_succ]
      exact .inr ⟨k, hk, e.symm, h.real _ hI.2 (by omega)⟩
    · rw [if_neg e] at hl' ⊢; exact h.real j hj hl'
/-- One round over k arcs, from f: what f has become, and whether anything changed. -/
structure Rn (A : Arcs) (n x : Nat) (f f' : Nat → Nat) (k : Nat) (again : Bool) : Prop where
  rx : Rx A n x f'
  same : again = false → (∀ j, j < n → f' j = f j) ∧ ∀ i, i < k → f (A.s i) ≤ f (A.t i) + 1
  less : again = true → tot f' n < tot f n
theorem Rn.start {A : Arcs} {n x : Nat} {f : Nat → Nat} (h : Rx A n x f) : Rn A n x f f 0 false := ⟨h, (fun _ => ⟨fun _ _ => rfl, fun i hi => by omega⟩), (fun h => by cases h)⟩
theorem Rn.skip {A : Arcs} {n x k : Nat} {f f' : Nat → Nat} {b : Bool} (h : Rn A n x f f' k b) (hA : A.In n) (hk : k < A.m) (hl : ¬ f' (A.t k) + 1 < f' (A.s k)) : Rn A n x f f' (k + 1) b := by
  refine ⟨h.rx, fun hb => ⟨(h.same hb).1, fun i hi => ?_⟩, h.less⟩
  rcases Nat.lt_or_ge i k with h1 | h1
  · exact (h.same hb).2 i h1
  · obtain rfl : i = k := by omega
    have hI := hA i hk
    rw [← (h.same hb).1 _ hI.1, ← (h.same hb).1 _ hI.2]
    omega
theorem Rn.turn {A : Arcs} {n x k : Nat} {f f' : Nat → Nat} {b : Bool} (h : Rn A n x f f' k b) (hA : A.In n) (hk : k < A.m) (hl : f' (A.t k) + 1 < f' (A.s k)) : Rn A n x f (upd f' (A.s k) (f' (A.t k) + 1)) (k + 1) true := by
  refine ⟨h.rx.relax hA hk hl, (fun hb => by cases hb), fun _ => ?_⟩
  have hI := hA k hk
  have h1 : tot (upd f' (A.s k) (f' (A.t k) + 1)) n < tot f' n := by
    refine tot_lt (k := A.s k) (fun j hj => ?_) hI.1 (by simp [upd]; omega)
    unfold upd; split
    · rename_i e; subst e; omega
    · exact Nat.le_refl _
  rcases b with _ | _
  · have : tot f' n ≤ tot f n := tot_le n fun j hj => by rw [(h.same rfl).1 j hj]; exact Nat.le_refl _
    omega
  · have := h.less rfl; omega
theorem Rn.done {A : Arcs} {n x : Nat} {f f' : Nat → Nat} (h : Rn A n x f f' A.m false) (hA : A.In n) (hx : x < n) (j : Nat) (hj : j < n) : f' j = A.ds n x j := by
  refine A.ds_of hx hA h.rx.self h.rx.le h.rx.real (fun i hi => ?_) j hj
  have hI := hA i hi
  rw [(h.same rfl).1 _ hI.1, (h.same rfl).1 _ hI.2]
  exact (h.same rfl).2 i hi

theorem rp_all (s : Int) (k i : Nat) (h : i < k) : (rp s k k)[i]? = some (.int .i64 s) := rp_head s k k i h

set_option maxHeartbeats 4000000 in
theorem distances_any (va : Value) (n x : Nat) (A : Arcs) (w : World) (hn : n ≤ 64) (hx : x < n) (ha : IsArcs w w.heap.size va A) (hA : A.In n) :
    Calls Try.prog 23 #[.int .i64 n, va, .int .i64 x] w fun e w' => ∃ v', e = .returned v' ∧ Row w' w'.heap.size .i64 v' n (fun i => (A.ds n x i : Nat)) ∧ Below w.heap.size w w' := by
  have cr := repeat_any w.heap.size (n : Int) n (w.alloc (.cells #[.int .i64 n] 3)) (by omega) (by omega) (by rw [(Bk.new w _ _).cell]; rfl)
  have HA := Lib.hid hA; have CR := Lib.hid cr
  clear cr hA
  obtain ⟨a', c', rfl, hm, ha⟩ := ha
  have HR := Lib.hid ha
  have hm' : A.m ≤ 9223372036854775807 := by simp only [maxLen] at hm; omega
  clear ha hm
  go_enter Try.func23, Try.ntmps23
  go_wp2_with fail
  refine CR.out.mono ?_
  rintro e w1 ⟨rfl, hk1, hb1⟩
  simp only [World.size_alloc] at hk1 hb1
  have hfr : Fr w1 (w.heap.size + 1) n (fun _ => n) := ⟨_, _, hk1, fun i hi => rp_all _ _ _ hi⟩
  have B1 := Lib.hid (((Below.refl _ w).alloc (Nat.le_refl _) (.cells #[.int .i64 n] 3)).trans (hb1.mono (Nat.le_succ _)))
  have F2 := Lib.hid (hfr.set hx 0)
  have hfz := hfr.fz x
  have hcx := hfr.cell hx
  have R0 := Lib.hid (Rx.start A n x)
  have T0 := Lib.hid (tot_max (n := n) (f := upd (fun _ => n) x 0) (b := n) (Rx.start A n x).le)
  have hge : w.heap.size ≤ w.heap.size + 1 := Nat.le_succ _
  have B2 := Lib.hid (B1.out.setCell (p := ⟨w.heap.size + 1, x, none⟩) hge (.int .i64 ((0 : Nat) : Int)))
  have HGE := Lib.hid hge
  clear hk1 hb1 CR hfr B1 hge
  go_wp2_with fail
  go_loopg [8] (n * n + 1) (fun gk b wr => ∃ (f : Nat → Nat) (bb : Bool), b = .bool bb ∧ Fr wr (w.heap.size + 1) n f ∧ Rx A n x f ∧ Below w.heap.size w wr ∧ (bb = false → ∀ i, i < n → f i = A.ds n x i) ∧ (bb = true → tot f n + 1 ≤ gk))
  case atStart => exact ⟨_, true, rfl, F2.out, R0.out, B2.out, (fun h => by cases h), fun _ => by have := T0.out; omega⟩
  case round =>
    clear F2 R0 B2 T0 hfz hcx
    obtain ⟨f, bb, rfl, hfr, hrx, hb, hdone, hgk⟩ := hrel
    have F0 := Lib.hid hfr; have RX := Lib.hid hrx; have HB := Lib.hid hb; have DONE := Lib.hid hdone; have GK := Lib.hid hgk
    clear hfr hrx hb hdone hgk
    rcases bb with _ | _
    · have FIN := Lib.hid (F0.out.row n (DONE.out rfl))
      clear F0 DONE GK RX
      go_wp2
      go_ret
      exact ⟨_, rfl, FIN.out, HB.out⟩
    · go_wp2_with fail
      go_loopw [8, 21] (fun b i ws => ∃ (k : Nat) (f' : Nat → Nat) (bb : Bool), k ≤ A.m ∧ i = .int .i64 k ∧ b = .bool bb ∧ Fr ws (w.heap.size + 1) n f' ∧ Rn A n x f f' k bb ∧ Below w.heap.size w ws) (fun _ i _ => A.m - (intOf i).toNat)
      case atStart => exact ⟨0, f, false, Nat.zero_le _, rfl, rfl, F0.out, Rn.start RX.out, HB.out⟩
      case round =>
        clear F0 DONE HB
        obtain ⟨k, f', bb, hk, rfl, rfl, hfr, hrn, hb⟩ := hrel
        have FR := Lib.hid hfr; have RN := Lib.hid hrn; have HB := Lib.hid hb
        clear hfr hrn hb
        by_cases hlt : k < A.m
        · obtain ⟨hs, ht⟩ := HA.out k hlt
          obtain ⟨b, off, rfl, hbB, hcell⟩ := HR.out (by omega)
          have q0 : wr.cell? ⟨b, off + k * 2, none⟩ = some (.int .i64 (A.s k)) := by rw [HB.out.cell (p := ⟨b, off + k * 2, none⟩) hbB]; exact (hcell k hlt).1
          have q1 : wr.cell? ⟨b, off + k * 2 + 1, none⟩ = some (.int .i64 (A.t k)) := by rw [HB.out.cell (p := ⟨b, off + k * 2 + 1, none⟩) hbB]; exact (hcell k hlt).2
          have HB3 := Lib.hid (HB.out.alloc HB.out.size (.cells #[.int .i64 (A.s k), .int .i64 (A.t k)] 42))
          have F3 := Lib.hid (FR.out.kept ((Below.refl _ wr).alloc (Nat.le_refl _) (.cells #[.int .i64 (A.s k), .int .i64 (A.t k)] 42)))
          have ga : Bk (wr.alloc (.cells #[.int .i64 (A.s k), .int .i64 (A.t k)] 42)) wr.heap.size 42 #[.int .i64 (A.s k), .int .i64 (A.t k)] := Bk.new _ _ _
          have GA := Lib.hid ga
          have TURN := Lib.hid (RN.out.turn HA.out hlt); have SKIP := Lib.hid (RN.out.skip HA.out hlt)
          have l1 := RN.out.rx.le _ hs; have l2 := RN.out.rx.le _ ht
          clear ga hcell FR HB RN
          generalize A.s k = sk at *
          generalize A.t k = tk at *
          go_wp2_with fail
          have y0 := GA.out.cell 0; have y1 := GA.out.cell 1
          have z0 := F3.out.cell hs; have z1 := F3.out.cell ht
          have z2 := F3.out.fz sk
          have NX := Lib.hid (F3.out.set hs (f' tk + 1))
          simp only [List.getElem?_toArray, List.getElem?_cons_zero, List.getElem?_cons_succ] at y0 y1
          clear GA q0 q1
          generalize (wr.alloc (.cells #[.int .i64 sk, .int .i64 tk] 42)) = wa at *
          generalize hfs : f' sk = fs at *
          generalize hft : f' tk = ft at *
          have HFS := Lib.hid hfs; have HFT := Lib.hid hft
          clear hfs hft
          go_region
          by_cases hl : ft + 1 < fs
          · have TU := Lib.hid (TURN.out hl)
            have hl' : (ft : Int) + 1 < (fs : Int) := by omega
            clear TURN SKIP hl
            go_wp2_with fail
            go_region
            go_wp2
            go_roundw
            case rel =>
              refine ⟨k + 1, _, true, by omega, by go_num, rfl, ?_, TU.out, ?_⟩
              · skip
                exact (NX.out.kept (Below.refl _ _).drew).kept (Below.refl _ _).drew
              · exact ((HB3.out.drew.setCell (p := ⟨w.heap.size + 1, sk, none⟩) HGE.out _).drew)
            case measure => simp [intOf]; omega
          · have SK := Lib.hid (SKIP.out hl)
            have hl' : ¬ ((ft : Int) + 1 < (fs : Int)) := by omega
            clear TURN SKIP hl NX
            go_wp2
            go_roundw
            case rel => exact ⟨k + 1, f', bb, by omega, by go_num, rfl, F3.out.kept (Below.refl _ _).drew, SK.out, HB3.out.drew⟩
            case measure => simp [intOf]; omega
        · have RN1 := Lib.hid (show Rn A n x f f' A.m bb by rw [show A.m = k by omega]; exact RN.out)
          have hx' := hx
          clear RN
          have DN := Lib.hid (fun (h : bb = false) => (show Rn A n x f f' A.m false by rw [← h]; exact RN1.out).done HA.out hx)
          have GE := Lib.hid (GK.out trivial)
          go_wp2
          go_roundg (gk - 1)
          case measure => have := GE.out; omega
          case rel => exact ⟨f', bb, rfl, FR.out, RN1.out.rx, HB.out, DN.out, fun h => by have := RN1.out.less h; have := GE.out; omega⟩
end Go.Proofs.Ytehifnkpmhbimaa
