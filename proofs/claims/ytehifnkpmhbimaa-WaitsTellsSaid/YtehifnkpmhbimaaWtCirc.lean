/- The walks of waits.nearest, Circle, Victim. -/
import Derived.Test.YtehifnkpmhbimaaWtDist
set_option linter.unusedVariables false
set_option linter.unusedSimpArgs false
namespace Go.Proofs.Ytehifnkpmhbimaa
open Go.RowKit

theorem best_skip {A : Arcs} {n x f k : Nat} (h : A.s k ≠ f) : A.best n x f (k + 1) = A.best n x f k := by simp [Arcs.best, h]
theorem best_first {A : Arcs} {n x f k : Nat} (h : A.s k = f) (hb : A.best n x f k = none) : A.best n x f (k + 1) = some (A.t k) := by simp [Arcs.best, h, hb]
theorem best_take {A : Arcs} {n x f k b : Nat} (h : A.s k = f) (hb : A.best n x f k = some b) (ha : A.ds n x (A.t k) < A.ds n x b ∨ A.ds n x (A.t k) = A.ds n x b ∧ A.t k < b) : A.best n x f (k + 1) = some (A.t k) := by
  have : A.ahead n x (A.t k) b = true := by
    simp only [Arcs.ahead, Bool.or_eq_true, Bool.and_eq_true, decide_eq_true_eq, beq_iff_eq]; exact ha
  simp [Arcs.best, h, hb, this]
theorem best_keep {A : Arcs} {n x f k b : Nat} (h : A.s k = f) (hb : A.best n x f k = some b) (ha : ¬ (A.ds n x (A.t k) < A.ds n x b ∨ A.ds n x (A.t k) = A.ds n x b ∧ A.t k < b)) : A.best n x f (k + 1) = some b := by
  have : A.ahead n x (A.t k) b = false := by
    rcases hq : A.ahead n x (A.t k) b with _ | _
    · rfl
    · simp only [Arcs.ahead, Bool.or_eq_true, Bool.and_eq_true, decide_eq_true_eq, beq_iff_eq] at hq; exact absurd hq ha
  simp [Arcs.best, h, hb, this]

/-- The best so far, as the slots hold it. -/
def Bst (A : Arcs) (n x f k : Nat) (vb vf : Value) : Prop :=
  (A.best n x f k = none ∧ vb = .int .i64 0 ∧ vf = .bool false) ∨ (∃ b : Nat, A.best n x f k = some b ∧ b < n ∧ vb = .int .i64 b ∧ vf = .bool true)

set_option maxHeartbeats 4000000 in
theorem nearest_any (va vd : Value) (n x f : Nat) (A : Arcs) (w : World) (ha : IsArcs w w.heap.size va A) (hA : A.In n) (hd : Row w w.heap.size .i64 vd n (fun i => (A.ds n x i : Nat))) :
    Calls Try.prog 24 #[va, .int .i64 f, vd] w fun e w' => (∃ vb vf, e = .returned (.tuple #[vb, vf]) ∧ Bst A n x f A.m vb vf) ∧ Below w.heap.size w w' := by
  have HA := Lib.hid hA
  obtain ⟨a', c', rfl, hm, ha⟩ := ha
  obtain ⟨ad, cd, rfl, _, hd⟩ := hd
  have HR := Lib.hid ha; have HD := Lib.hid hd
  have hm' : A.m ≤ 9223372036854775807 := by simp only [maxLen] at hm; omega
  clear ha hm hA hd
  go_enter Try.func24, Try.ntmps24
  go_wp2_with fail
  go_loopw [8, 9, 15] (fun vb vf i wr => ∃ k : Nat, k ≤ A.m ∧ i = .int .i64 k ∧ Bst A n x f k vb vf ∧ Below w.heap.size w wr) (fun _ _ i _ => A.m - (intOf i).toNat)
  case atStart => exact ⟨0, Nat.zero_le _, rfl, .inl ⟨rfl, rfl, rfl⟩, Below.refl _ _⟩
  case round =>
    obtain ⟨k, hk, rfl, hbst, hb⟩ := hrel
    have HB := Lib.hid hb; have HBS := Lib.hid hbst
    clear hb hbst
    by_cases hlt : k < A.m
    · obtain ⟨hs, ht⟩ := HA.out k hlt
      obtain ⟨b, off, rfl, hbB, hcell⟩ := HR.out (by omega)
      obtain ⟨bd, od, rfl, hbD, hcd⟩ := HD.out (by omega)
      have q0 : wr.cell? ⟨b, off + k * 2, none⟩ = some (.int .i64 (A.s k)) := by rw [HB.out.cell (p := ⟨b, off + k * 2, none⟩) hbB]; exact (hcell k hlt).1
      have q1 : wr.cell? ⟨b, off + k * 2 + 1, none⟩ = some (.int .i64 (A.t k)) := by rw [HB.out.cell (p := ⟨b, off + k * 2 + 1, none⟩) hbB]; exact (hcell k hlt).2
      have HB3 := Lib.hid (HB.out.alloc HB.out.size (.cells #[.int .i64 (A.s k), .int .i64 (A.t k)] 42))
      have ga : Bk (wr.alloc (.cells #[.int .i64 (A.s k), .int .i64 (A.t k)] 42)) wr.heap.size 42 #[.int .i64 (A.s k), .int .i64 (A.t k)] := Bk.new _ _ _
      have GA := Lib.hid ga
      have HCD := Lib.hid hcd
      have SKIP := Lib.hid (fun (h : A.s k ≠ f) => best_skip (n := n) (x := x) h)
      have FIRST := Lib.hid (fun (h : A.s k = f) => best_first (n := n) (x := x) (k := k) h)
      have TAKE := Lib.hid (fun (h : A.s k = f) b => best_take (n := n) (x := x) (k := k) (b := b) h)
      have KEEP := Lib.hid (fun (h : A.s k = f) b => best_keep (n := n) (x := x) (k := k) (b := b) h)
      clear ga hcell hcd
      generalize A.s k = sk at *
      generalize A.t k = tk at *
      by_cases hsf : sk = f
      · subst hsf
        rcases HBS.out with ⟨hn, rfl, rfl⟩ | ⟨bb, hsome, hbb, rfl, rfl⟩
        · have NB := Lib.hid (FIRST.out rfl hn)
          clear hn HBS SKIP FIRST TAKE KEEP
          go_wp2_with fail
          have y0 := GA.out.cell 0; have y1 := GA.out.cell 1
          simp only [List.getElem?_toArray, List.getElem?_cons_zero, List.getElem?_cons_succ] at y0 y1
          clear q0 q1 GA
          generalize (wr.alloc (.cells #[.int .i64 sk, .int .i64 tk] 42)) = wa at *
          go_wp2_with fail
          go_quiet (fail)
          go_wp2
          go_roundw
          case rel => exact ⟨k + 1, by omega, by go_num, .inr ⟨tk, NB.out, ht, rfl, rfl⟩, below_drewN HB3.out _⟩
          case measure => simp [intOf]; omega
        · have TK := Lib.hid (TAKE.out rfl bb hsome); have KP := Lib.hid (KEEP.out rfl bb hsome)
          have z0 := HCD.out tk ht; have z1 := HCD.out bb hbb
          rw [← HB3.out.cell (p := ⟨bd, od + tk, none⟩) hbD] at z0
          rw [← HB3.out.cell (p := ⟨bd, od + bb, none⟩) hbD] at z1
          clear hsome HBS SKIP FIRST TAKE KEEP
          generalize A.ds n x tk = dt at *
          generalize A.ds n x bb = db at *
          go_wp2_with fail
          have y0 := GA.out.cell 0; have y1 := GA.out.cell 1
          simp only [List.getElem?_toArray, List.getElem?_cons_zero, List.getElem?_cons_succ] at y0 y1
          clear q0 q1 GA
          generalize (wr.alloc (.cells #[.int .i64 sk, .int .i64 tk] 42)) = wa at *
          by_cases h1 : dt < db
          · have TK1 := Lib.hid (TK.out (.inl h1))
            have h1' : (dt : Int) < (db : Int) := by omega
            clear TK KP
            go_wp2_with fail
            go_quiet (fail)
            go_wp2
            go_roundw
            case rel => exact ⟨k + 1, by omega, by go_num, .inr ⟨tk, TK1.out, ht, rfl, rfl⟩, below_drewN HB3.out _⟩
            case measure => simp [intOf]; omega
          · have h1' : ¬ (dt : Int) < (db : Int) := by omega
            by_cases h2 : dt = db
            · subst h2
              by_cases h3 : tk < bb
              · have TK1 := Lib.hid (TK.out (.inr ⟨rfl, h3⟩))
                have h3' : (tk : Int) < (bb : Int) := by omega
                clear TK KP
                go_wp2_with fail
                go_quiet (fail)
                go_wp2
                go_roundw
                case rel => exact ⟨k + 1, by omega, by go_num, .inr ⟨tk, TK1.out, ht, rfl, rfl⟩, below_drewN HB3.out _⟩
                case measure => simp [intOf]; omega
              · have KP1 := Lib.hid (KP.out (fun h => by omega))
                have h3' : ¬ (tk : Int) < (bb : Int) := by omega
                clear TK KP
                go_wp2_with fail
                go_quiet (fail)
                go_wp2
                go_roundw
                case rel => exact ⟨k + 1, by omega, by go_num, .inr ⟨bb, KP1.out, hbb, rfl, rfl⟩, below_drewN HB3.out _⟩
                case measure => simp [intOf]; omega
            · have KP1 := Lib.hid (KP.out (fun h => by omega))
              have h2' : ((dt : Int) == (db : Int)) = false := by simp; omega
              have h3' : ¬ ((dt : Int) = (db : Int)) := by omega
              clear TK KP
              go_wp2_with fail
              go_quiet (fail)
              go_wp2
              go_roundw
              case rel => exact ⟨k + 1, by omega, by go_num, .inr ⟨bb, KP1.out, hbb, rfl, rfl⟩, below_drewN HB3.out _⟩
              case measure => simp [intOf]; omega
      · have SK := Lib.hid (SKIP.out hsf)
        have hne : ((sk : Int) != (f : Int)) = true := by simp; omega
        have HBS2 := Lib.hid (show Bst A n x f (k + 1) _ _ by unfold Bst; rw [SK.out]; exact HBS.out)
        clear SKIP FIRST TAKE KEEP hsf HBS
        go_wp2
        go_roundw
        case rel => exact ⟨k + 1, by omega, by go_num, HBS2.out, HB3.out⟩
        case measure => simp [intOf]; omega
    · have FIN := Lib.hid (show Bst A n x f A.m _ _ by rw [show A.m = k by omega]; exact HBS.out)
      clear HBS
      go_wp2
      go_ret2
      exact ⟨⟨_, _, rfl, FIN.out⟩, HB.out⟩

set_option maxHeartbeats 1000000 in
theorem victim_none (a : Option Addr) (c : Nat) (w : World) :
    Calls Try.prog 18 #[.slice a 0 c] w fun e w' => e = .returned (.tuple #[.int .i64 0, .bool false]) ∧ Below w.heap.size w w' := by
  go_enter Try.func18, Try.ntmps18
  go_wp2
  go_ret2
  exact ⟨rfl, Below.refl _ _⟩
set_option maxHeartbeats 1000000 in
theorem victim_some (v : Value) (m : Nat) (f : Nat → Int) (w : World) (hm0 : 0 < m) (hm : m ≤ maxLen) (h : Row w w.heap.size .i64 v m f) :
    Calls Try.prog 18 #[v] w fun e w' => e = .returned (.tuple #[.int .i64 (mxi f (m - 1)), .bool true]) ∧ Below w.heap.size w w' := by
  have cm := max_any v m f w hm0 hm h
  have CM := Lib.hid cm
  have hne : ((m : Int) == 0) = false := by simp; omega
  obtain ⟨a, c, rfl, _⟩ := h
  clear cm hm
  go_enter Try.func18, Try.ntmps18
  go_wp2_with fail
  refine CM.out.mono ?_
  rintro e w1 ⟨rfl, hb1⟩
  go_wp2
  go_ret2
  exact ⟨rfl, hb1⟩
end Go.Proofs.Ytehifnkpmhbimaa
