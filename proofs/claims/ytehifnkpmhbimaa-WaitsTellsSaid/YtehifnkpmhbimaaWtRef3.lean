/- The walk of the document's own Circle. -/
import Derived.Test.YtehifnkpmhbimaaWtRef2
set_option linter.unusedVariables false
set_option linter.unusedSimpArgs false
namespace Go.Proofs.Ytehifnkpmhbimaa
open Go.RowKit

/-- The first i things of the way. -/
def ql (A : Arcs) (n x i : Nat) : List Value := (List.range i).map fun j => Value.int .i64 (A.q n x j : Nat)
theorem ql_succ (A : Arcs) (n x i : Nat) : ql A n x (i + 1) = ql A n x i ++ [Value.int .i64 (A.q n x i : Nat)] := by simp [ql, List.range_succ]
theorem ql_qs (A : Arcs) (n x i : Nat) : ql A n x (i + 1) = qs A n x i := rfl
theorem rbest_zero (A : Arcs) (n x f : Nat) : A.rbest n x f 0 = -1 := rfl
theorem rbest_on2 {A : Arcs} {n x i : Nat} (h : A.on n x = true) (hi : i ≤ A.far n x) : A.rbest n x (A.q n x i) A.m = (A.q n x (i + 1) : Nat) := by
  obtain ⟨h1, h2, h3⟩ := A.q_on h i hi
  unfold Arcs.rbest
  rw [h1]
  simp only
  rw [if_pos (by omega)]
theorem rbest_in {A : Arcs} {n x f k b : Nat} (hA : A.In n) (hk : k ≤ A.m) (h : A.rbest n x f k = (b : Int)) : b < n ∧ A.ds n x b < n := by
  obtain ⟨h1, h2⟩ := A.rbest_val h
  obtain ⟨⟨i, h3, h4, h5⟩, _⟩ := A.best_some h1
  exact ⟨by rw [← h5]; exact (hA i (by omega)).2, h2⟩
theorem more_take {A : Arcs} {n x f k b : Nat} (hs : A.s k = f) (h : A.ds n x (A.t k) < n) (hr : A.rbest n x f k = (b : Int)) (ha : A.ds n x (A.t k) < A.ds n x b ∨ A.ds n x (A.t k) = A.ds n x b ∧ A.t k < b) : A.rbest n x f (k + 1) = (A.t k : Int) := by
  rw [A.rbest_more hs h hr, if_pos]
  simp only [Arcs.ahead, Bool.or_eq_true, Bool.and_eq_true, decide_eq_true_eq, beq_iff_eq]; exact ha
theorem more_keep {A : Arcs} {n x f k b : Nat} (hs : A.s k = f) (h : A.ds n x (A.t k) < n) (hr : A.rbest n x f k = (b : Int)) (ha : ¬ (A.ds n x (A.t k) < A.ds n x b ∨ A.ds n x (A.t k) = A.ds n x b ∧ A.t k < b)) : A.rbest n x f (k + 1) = (b : Int) := by
  rw [A.rbest_more hs h hr, if_neg]
  simp only [Arcs.ahead, Bool.or_eq_true, Bool.and_eq_true, decide_eq_true_eq, beq_iff_eq]; exact ha

set_option maxRecDepth 100000 in
set_option maxHeartbeats 4000000 in
theorem rcircle_good (va : Value) (n x : Nat) (A : Arcs) (w : World) (hn : n ≤ 64) (hx : x < n) (ha : IsArcs w w.heap.size va A) (hA : A.In n) :
    Calls Try.prog 13 #[.int .i64 n, va, .int .i64 x] w fun e w' => ((A.on n x = true ∧ ∃ v', e = .returned (.tuple #[v', .int .i64 0]) ∧ Row w' w'.heap.size .i64 v' (A.far n x + 1) (fun i => (A.q n x i : Nat))) ∨ (A.on n x = false ∧ e = .returned (.tuple #[.slice none 0 0, .int .i64 0]))) ∧ Below w.heap.size w w' := by
  have cc := wrong_any n va A.m (fun i => A.s i) (fun i => A.t i) w (by omega) (by omega) ha
  have CR := Lib.hid (fun (w' : World) (hb : Below w.heap.size w w') => reach_any va n x A w' hn hx ((ArcI.below ha hb (Nat.le_refl _)).mono hb.size) hA)
  have HA := Lib.hid hA; have CC := Lib.hid cc; have FI := Lib.hid (fine_of hn hA)
  have HF := Lib.hid (fun h => (A.q_on (n := n) (x := x) h 0 (Nat.zero_le _)).2.2)
  obtain ⟨i0, hi, hz0, hz1, hz2⟩ := info_parts Try.info3
  have HI := Lib.hid hi; have HZ0 := Lib.hid hz0; have HZ1 := Lib.hid hz1; have HZ2 := Lib.hid hz2
  obtain ⟨a', c', rfl, hm, ha⟩ := ha
  have HR := Lib.hid ha
  have hm' : A.m ≤ 9223372036854775807 := by simp only [maxLen] at hm; omega
  have hx1 : ¬ ((x : Int) < 0) := by omega
  have hx2 : ¬ ((n : Int) ≤ (x : Int)) := by omega
  have hx3 : ¬ (n ≤ x) := by omega
  clear ha hm hA hi hz0 hz1 hz2 cc
  go_enter Try.func13, Try.ntmps13
  go_wp2_with fail
  refine CC.out.mono ?_
  rintro e w1 ⟨⟨rfl, _⟩ | ⟨_, hbad⟩, hb1⟩
  · have CR1 := Lib.hid (CR.out w1 hb1); have HB1 := Lib.hid hb1
    clear CC CR FI hb1
    go_wp2_with fail
    refine CR1.out.mono ?_
    rintro e w2 ⟨rfl, hf2, hb2⟩
    have B2 := Lib.hid (below_then HB1.out hb2 HB1.out.size); have F2 := Lib.hid hf2; have SZ := Lib.hid HB1.out.size; have S2 := Lib.hid hb2.size
    have GL := Lib.hid hf2.lt
    clear hb2 hf2 CR1 HB1 hx1 hx2 hx3
    go_wp2_with fail
    go_loopg [9, 10] (A.far n x + 1) (fun gk at_ l wr => ∃ i, (A.on n x = true → i + gk = A.far n x + 1) ∧ (A.on n x = false → i = 0) ∧ 1 ≤ gk ∧ at_ = .int .i64 (A.q n x i : Nat) ∧ wr.ownsRow w2.heap.size 3 1 l i (ql A n x i) ∧ Fi wr w1.heap.size n (rd A n x) ∧ Below w.heap.size w wr ∧ w2.heap.size ≤ wr.heap.size)
    case atStart => exact ⟨0, fun _ => by omega, fun _ => rfl, by omega, rfl, ⟨rfl, .inl ⟨rfl, rfl⟩⟩, F2.out, B2.out, Nat.le_refl _⟩
    case round =>
      clear F2 B2
      obtain ⟨i, hon, hoff, hgk, rfl, hown, hf, hb, hsz⟩ := hrel
      have ON := Lib.hid hon; have OFF := Lib.hid hoff; have OW := Lib.hid hown; have FF := Lib.hid hf; have HB := Lib.hid hb; have S := Lib.hid hsz
      have hi64 : i ≤ 64 := by
        rcases h : A.on n x with _ | _
        · rw [hoff h]; omega
        · have := hon h; have := HF.out h; omega
      clear hon hoff hown hf hb hsz
      have HQ := Lib.hid (show A.q n x i = A.q n x i from rfl)
      generalize hqi : A.q n x i = qi at *
      have HQI := Lib.hid hqi
      clear hqi HQ
      go_wp2_with fail
      go_loopw [11, 12] (fun b j ws => ∃ k : Nat, k ≤ A.m ∧ j = .int .i64 k ∧ b = .int .i64 (A.rbest n x qi k) ∧ Fi ws w1.heap.size n (rd A n x) ∧ Below w.heap.size w ws ∧ Below wr.heap.size wr ws) (fun _ j _ => A.m - (intOf j).toNat)
      case atStart => exact ⟨0, Nat.zero_le _, rfl, by rw [rbest_zero], FF.out, HB.out, Below.refl _ _⟩
      case round =>
        clear FF HB
        obtain ⟨k, hk, rfl, rfl, hf, hb, hb'⟩ := hrel
        have FF := Lib.hid hf; have HB := Lib.hid hb; have HB' := Lib.hid hb'
        clear hf hb hb'
        by_cases hlk : k < A.m
        · obtain ⟨hs, ht⟩ := HA.out k hlk
          obtain ⟨b, off, rfl, hbB, hcell⟩ := HR.out (by omega)
          have q0 : wr.cell? ⟨b, off + k * 2, none⟩ = some (.int .i64 (A.s k)) := by rw [HB.out.cell (p := ⟨b, off + k * 2, none⟩) hbB]; exact (hcell k hlk).1
          have q1 : wr.cell? ⟨b, off + k * 2 + 1, none⟩ = some (.int .i64 (A.t k)) := by rw [HB.out.cell (p := ⟨b, off + k * 2 + 1, none⟩) hbB]; exact (hcell k hlk).2
          have q1' : wr.cell? ⟨b, off + (k * 2 + 1), none⟩ = some (.int .i64 (A.t k)) := q1
          have z0 := FF.out.cell ht
          clear hcell
          have SKIP := Lib.hid (fun (h : A.s k ≠ qi) => A.rbest_skip (n := n) (x := x) h)
          have FARR := Lib.hid (fun (h : n ≤ A.ds n x (A.t k)) => A.rbest_far (n := n) (x := x) (f := qi) h)
          have FIRST := Lib.hid (fun (h : A.s k = qi) => A.rbest_first (n := n) (x := x) (k := k) h)
          have TAKE := Lib.hid (fun (h : A.s k = qi) b => more_take (n := n) (x := x) (k := k) (b := b) h)
          have KEEP := Lib.hid (fun (h : A.s k = qi) b => more_keep (n := n) (x := x) (k := k) (b := b) h)
          have NN := Lib.hid (fun b => rbest_in (x := x) (f := qi) (b := b) HA.out hk)
          unfold rd at z0
          generalize A.s k = sk at *
          generalize A.t k = tk at *
          generalize hrk : A.rbest n x qi (k + 1) = rk at *
          have HRK := Lib.hid hrk
          clear hrk
          by_cases hsf : sk = qi
          · subst hsf
            by_cases hd : A.ds n x tk < n
            · rw [if_pos hd] at z0
              rcases A.rbest_cases n x sk k with hr | ⟨bb, hr⟩
              · have NB := Lib.hid (FIRST.out rfl hd hr)
                rw [hr]
                clear hr SKIP FARR FIRST TAKE KEEP NN
                generalize A.ds n x tk = dt at *
                go_wp2_with fail
                go_region
                go_wp2
                go_roundw
                case rel => exact ⟨k + 1, by omega, by go_num, by rw [HRK.out, NB.out], FF.out.kept (Below.refl _ _).drew, HB.out.drew, HB'.out.drew⟩
                case measure => simp [intOf]; omega
              · obtain ⟨hbn, hbd⟩ := NN.out bb hr
                have TK := Lib.hid (TAKE.out rfl bb hd hr); have KP := Lib.hid (KEEP.out rfl bb hd hr)
                have z1 := FF.out.cell hbn
                unfold rd at z1
                rw [if_pos hbd] at z1
                rw [hr]
                clear hr SKIP FARR FIRST TAKE KEEP NN
                generalize A.ds n x tk = dt at *
                generalize A.ds n x bb = db at *
                have hb0 : ¬ ((bb : Int) < 0) := by omega
                by_cases h1 : dt < db
                · have TK1 := Lib.hid (TK.out (.inl h1))
                  clear TK KP
                  go_wp2_with fail
                  have hb1 : ¬ ((bb : Int) < 0) := by omega
                  have hb2 : decide ((bb : Int) < 0) = false := by simp
                  go_quiet (fail)
                  go_wp2
                  go_roundw
                  case rel => exact ⟨k + 1, by omega, by go_num, by rw [HRK.out, TK1.out], FF.out.kept (below_drewN (Below.refl _ _) _), below_drewN HB.out _, below_drewN HB'.out _⟩
                  case measure => simp [intOf]; omega
                · by_cases h2 : dt = db
                  · subst h2
                    by_cases h3 : tk < bb
                    · have TK1 := Lib.hid (TK.out (.inr ⟨rfl, h3⟩))
                      clear TK KP
                      go_wp2_with fail
                      have hb1 : ¬ ((bb : Int) < 0) := by omega
                      have hb2 : decide ((bb : Int) < 0) = false := by simp
                      go_quiet (fail)
                      go_wp2
                      go_roundw
                      case rel => exact ⟨k + 1, by omega, by go_num, by rw [HRK.out, TK1.out], FF.out.kept (below_drewN (Below.refl _ _) _), below_drewN HB.out _, below_drewN HB'.out _⟩
                      case measure => simp [intOf]; omega
                    · have KP1 := Lib.hid (KP.out (fun h => by omega))
                      clear TK KP
                      go_wp2_with fail
                      have hb1 : ¬ ((bb : Int) < 0) := by omega
                      have hb2 : decide ((bb : Int) < 0) = false := by simp
                      go_quiet (fail)
                      go_wp2
                      go_roundw
                      case rel => exact ⟨k + 1, by omega, by go_num, by rw [HRK.out, KP1.out], FF.out.kept (below_drewN (Below.refl _ _) _), below_drewN HB.out _, below_drewN HB'.out _⟩
                      case measure => simp [intOf]; omega
                  · have KP1 := Lib.hid (KP.out (fun h => by omega))
                    have h2' : ((dt : Int) == (db : Int)) = false := by simp; omega
                    have h3' : ¬ ((dt : Int) = (db : Int)) := by omega
                    clear TK KP
                    go_wp2_with fail
                    have hb1 : ¬ ((bb : Int) < 0) := by omega
                    have hb2 : decide ((bb : Int) < 0) = false := by simp
                    go_quiet (fail)
                    go_wp2
                    go_roundw
                    case rel => exact ⟨k + 1, by omega, by go_num, by rw [HRK.out, KP1.out], FF.out.kept (below_drewN (Below.refl _ _) _), below_drewN HB.out _, below_drewN HB'.out _⟩
                    case measure => simp [intOf]; omega
            · have SK := Lib.hid (FARR.out (by omega))
              rw [if_neg hd] at z0
              clear SKIP FARR FIRST TAKE KEEP NN
              generalize A.rbest n x sk k = rr at *
              go_wp2_with fail
              go_region
              go_wp2
              go_roundw
              case rel => exact ⟨k + 1, by omega, by go_num, by rw [HRK.out, SK.out], FF.out.kept (Below.refl _ _).drew, HB.out.drew, HB'.out.drew⟩
              case measure => simp [intOf]; omega
          · have SK := Lib.hid (SKIP.out hsf)
            have h2' : ((sk : Int) == (qi : Int)) = false := by simp; omega
            have h3' : ¬ ((sk : Int) = (qi : Int)) := by omega
            clear SKIP FARR FIRST TAKE KEEP NN z0
            generalize A.rbest n x qi k = rr at *
            go_wp2_with fail
            go_region
            go_wp2
            go_roundw
            case rel => exact ⟨k + 1, by omega, by go_num, by rw [HRK.out, SK.out], FF.out.kept (Below.refl _ _).drew, HB.out.drew, HB'.out.drew⟩
            case measure => simp [intOf]; omega
        · have HKM := Lib.hid (show A.m = k by omega)
          have OW2 := Lib.hid (own_kept OW.out HB'.out); have S2' := Lib.hid (Nat.le_trans S.out HB'.out.size)
          have RB := Lib.hid (show A.rbest n x qi k = A.rbest n x qi A.m by rw [HKM.out])
          clear OW S HB'
          rcases hon : A.on n x with _ | _
          · have hm1 : A.rbest n x qi k = -1 := by
              rw [RB.out, ← HQI.out, OFF.out hon]; exact A.rbest_off hon
            rw [hm1]
            have HON := Lib.hid hon
            clear hm1 RB hon ON OFF
            go_wp2
            go_ret2
            exact ⟨.inr ⟨HON.out, rfl⟩, HB.out⟩
          · have hig := ON.out hon
            have hm1 : A.rbest n x qi k = (A.q n x (i + 1) : Nat) := by
              rw [RB.out, ← HQI.out]; exact rbest_on2 hon (by omega)
            rw [hm1]
            have HON := Lib.hid hon
            have QX := Lib.hid (fun h => A.q_not hon i h); have QE := Lib.hid (A.q_back hon)
            have IG := Lib.hid hig
            clear hm1 RB hon ON OFF hig
            generalize hqn : A.q n x (i + 1) = qn at *
            have HQN := Lib.hid hqn
            clear hqn
            have hb1 : ¬ ((qn : Int) < 0) := by omega
            go_wp2_with (at_builtin; refine wpList_append_own _ rfl _ _ 30 rfl w2.heap.size 3 i0 (.int .i64 0) 1 8 Try.underlying30 HI.out HZ0.out HZ1.out HZ2.out rfl (by decide) _ i (ql A n x i) rfl (OW2.out.alloc _) ⟨wr.heap.size, 0, none⟩ 1 1 [Value.int .i64 (qi : Nat)] rfl ?qc1 ?qc2 ?qc3 ?qc4 ?qc5 ?qc6 ?_)
            case qc3 => rfl
            case qc4 => unfold maxLen; omega
            case qc5 => omega
            case qc6 => have := S2'.out; omega
            intro v' w5 hown hgrow hnil
            have OW5 := Lib.hid (show w5.ownsRow w2.heap.size 3 1 v' (i + 1) (ql A n x (i + 1)) by rw [ql_succ, HQI.out]; exact hown)
            have SW := Lib.hid (show w.heap.size ≤ w2.heap.size from Nat.le_trans SZ.out S2.out)
            have HB5 := Lib.hid ((HB.out.alloc HB.out.size (.cells #[.int .i64 (qi : Nat)] 3)).grown hgrow (by have := HB.out.size; simp; omega) (fun k hk => Nat.le_trans SW.out (OW2.out.lt k hk).1))
            have BW := Lib.hid (((Below.refl w2.heap.size wr).alloc S2'.out (.cells #[.int .i64 (qi : Nat)] 3)).grown hgrow (by have := S2'.out; simp; omega) (fun k hk => (OW2.out.lt k hk).1))
            have F5 := Lib.hid (show Fi w5 w1.heap.size n (rd A n x) by
              obtain ⟨ty, cur, h1, h2⟩ := FF.out.at_
              exact ⟨ty, cur, h1.below BW.out GL.out, h2⟩)
            have S5 := Lib.hid (show w2.heap.size ≤ w5.heap.size by have := hgrow.size; simp at this; have := S2'.out; omega)
            clear hown hgrow hnil OW2 FF HB
            by_cases hif : i = A.far n x
            · have hqx : qn = x := by rw [← HQN.out, hif]; exact QE.out
              subst hqx
              have FIN := Lib.hid (show Row w5 w5.heap.size .i64 v' (A.far n qn + 1) (fun j => (A.q n qn j : Nat)) by rw [← hif]; exact own_row OW5.out)
              clear hif
              go_wp2
              go_ret2
              exact ⟨.inl ⟨HON.out, _, rfl, FIN.out⟩, HB5.out⟩
            · have IL := Lib.hid (show i < A.far n x by have := IG.out; omega)
              have hqx : ¬ (qn = x) := QX.out IL.out
              have hqx' : ((qn : Int) == (x : Int)) = false := by simp; omega
              have hqx'' : ¬ ((qn : Int) = (x : Int)) := by omega
              clear hif
              go_wp2
              go_roundg (gk - 1)
              case measure => omega
              case rel => exact ⟨i + 1, fun _ => by have := IG.out; have := IL.out; omega, (fun h => by rw [HON.out] at h; cases h), by have := IG.out; have := IL.out; omega, by rw [HQN.out], OW5.out, F5.out, HB5.out, S5.out⟩
  · exact absurd FI.out hbad

set_option maxHeartbeats 1000000 in
theorem rdigests_bad (va : Value) (n : Int) (m : Nat) (s t : Nat → Int) (w : World) (h0 : -9223372036854775808 ≤ n) (h1 : n ≤ 9223372036854775807) (ha : ArcI w w.heap.size va m s t) (hf : ¬ Fine n m s t) :
    Calls Try.prog 11 #[.int .i64 n, va] w fun e w' => e = .returned (.tuple #[.slice none 0 0, .int .i64 1]) ∧ Below w.heap.size w w' := by
  have cc := wrong_any n va m s t w h0 h1 ha
  have CC := Lib.hid cc; have HF := Lib.hid hf
  clear cc hf
  go_enter Try.func11, Try.ntmps11
  go_wp2_with fail
  refine CC.out.mono ?_
  rintro e w1 ⟨⟨rfl, h⟩ | ⟨rfl, _⟩, hb1⟩
  · exact absurd h HF.out
  · go_wp2
    go_ret2
    exact ⟨rfl, hb1⟩
set_option maxHeartbeats 1000000 in
theorem rcircle_bad (va : Value) (n x : Int) (m : Nat) (s t : Nat → Int) (w : World) (h0 : -9223372036854775808 ≤ n) (h1 : n ≤ 9223372036854775807) (ha : ArcI w w.heap.size va m s t) (hf : Rfs n m s t x) :
    Calls Try.prog 13 #[.int .i64 n, va, .int .i64 x] w fun e w' => e = .returned (.tuple #[.slice none 0 0, .int .i64 1]) ∧ Below w.heap.size w w' := by
  have cc := wrong_any n va m s t w h0 h1 ha
  have CC := Lib.hid cc
  clear cc
  rcases hf with hf | hf
  · have HF := Lib.hid hf
    clear hf
    go_enter Try.func13, Try.ntmps13
    go_wp2_with fail
    refine CC.out.mono ?_
    rintro e w1 ⟨⟨rfl, h⟩ | ⟨rfl, _⟩, hb1⟩
    · exact absurd h HF.out
    · go_wp2
      go_ret2
      exact ⟨rfl, hb1⟩
  · rcases (show x < 0 ∨ (¬ x < 0 ∧ n ≤ x) by omega) with h | ⟨h, h'⟩
    all_goals
      clear hf
      go_enter Try.func13, Try.ntmps13
      go_wp2_with fail
      refine CC.out.mono ?_
      rintro e w1 ⟨⟨rfl, hh⟩ | ⟨rfl, _⟩, hb1⟩
      · clear hh
        go_wp2
        go_ret2
        exact ⟨rfl, hb1⟩
      · go_wp2
        go_ret2
        exact ⟨rfl, hb1⟩
end Go.Proofs.Ytehifnkpmhbimaa
