/- The walk of waits.Circle. -/
import Derived.Test.YtehifnkpmhbimaaWtCirc
set_option linter.unusedVariables false
set_option linter.unusedSimpArgs false
namespace Go.Proofs.Ytehifnkpmhbimaa
open Go.RowKit

/-- The way so far: its i + 1 things. -/
def qs (A : Arcs) (n x i : Nat) : List Value := (List.range (i + 1)).map fun j => Value.int .i64 (A.q n x j : Nat)
theorem qs_succ (A : Arcs) (n x i : Nat) : qs A n x (i + 1) = qs A n x i ++ [Value.int .i64 (A.q n x (i + 1) : Nat)] := by simp [qs, List.range_succ]
theorem qs_get (A : Arcs) (n x i j : Nat) (h : j ≤ i) : (qs A n x i)[j]? = some (.int .i64 (A.q n x j : Nat)) := by
  simp [qs, List.getElem?_range (show j < i + 1 by omega)]
/-- Where a way of one's own lies. -/
theorem own_at {w : World} {base : Nat} {t : TypeId} {v : Value} {A : Arcs} {n x i : Nat} (h : w.ownsRow base t 1 v (i + 1) (qs A n x i)) :
    ∃ g cap, v = .slice (some ⟨g, 0, none⟩) (i + 1) cap ∧ base ≤ g ∧ g < w.heap.size ∧ ∀ j, j ≤ i → w.cell? ⟨g, j, none⟩ = some (.int .i64 (A.q n x j : Nat)) := by
  rcases h.2 with ⟨_, h0⟩ | ⟨g, cap, cur, rfl, hbg, hg, _⟩
  · omega
  · have hlt : g < w.heap.size := by
      rcases Nat.lt_or_ge g w.heap.size with h1 | h1
      · exact h1
      · rw [Array.getElem?_eq_none h1] at hg; cases hg
    refine ⟨g, cap, rfl, hbg, hlt, fun j hj => ?_⟩
    have := h.cells (g := g) rfl j _ (qs_get A n x i j hj)
    rw [Addr.add_lit, Nat.zero_add] at this
    exact this
theorem own_row {w : World} {base : Nat} {t : TypeId} {v : Value} {A : Arcs} {n x i : Nat} (h : w.ownsRow base t 1 v (i + 1) (qs A n x i)) : Row w w.heap.size .i64 v (i + 1) (fun j => (A.q n x j : Nat)) := by
  obtain ⟨g, cap, rfl, _, hlt, hc⟩ := own_at h
  exact ⟨_, cap, rfl, (fun e => by cases e), fun _ => ⟨g, 0, rfl, hlt, fun j hj => by rw [Nat.zero_add]; exact hc j (by omega)⟩⟩
theorem own_kept {w w' : World} {base : Nat} {t : TypeId} {v : Value} {n : Nat} {xs : List Value} (h : w.ownsRow base t 1 v n xs) (hb : Below w.heap.size w w') : w'.ownsRow base t 1 v n xs := by
  refine ⟨h.1, ?_⟩
  rcases h.2 with h0 | ⟨g, cap, cur, rfl, hbg, hg, h1, h2, h3, h4⟩
  · exact .inl h0
  · have hlt : g < w.heap.size := by
      rcases Nat.lt_or_ge g w.heap.size with h1 | h1
      · exact h1
      · rw [Array.getElem?_eq_none h1] at hg; cases hg
    exact .inr ⟨g, cap, cur, rfl, hbg, (hb.block g hlt).trans hg, h1, h2, h3, h4⟩
theorem own_start (w : World) (t : TypeId) (A : Arcs) (n x : Nat) (B : Nat) (hB : B ≤ w.heap.size) : (w.alloc (.cells #[.int .i64 (x : Nat)] t)).ownsRow B t 1 (.slice (some ⟨w.heap.size, 0, none⟩) 1 1) 1 (qs A n x 0) :=
  ⟨rfl, .inr ⟨w.heap.size, 1, _, rfl, hB, heap_alloc_new w _, Nat.le_refl _, by unfold maxLen; omega, rfl, rfl⟩⟩

set_option maxHeartbeats 4000000 in
theorem circle_on (va : Value) (n x : Nat) (A : Arcs) (w : World) (hn : n ≤ 64) (hx : x < n) (ha : IsArcs w w.heap.size va A) (hA : A.In n) (hon : A.on n x = true) :
    Calls Try.prog 12 #[.int .i64 n, va, .int .i64 x] w fun e w' => ∃ v', e = .returned (.tuple #[v', .int .i64 0]) ∧ Row w' w'.heap.size .i64 v' (A.far n x + 1) (fun i => (A.q n x i : Nat)) ∧ Below w.heap.size w w' := by
  have cc := check_any n va A.m (fun i => A.s i) (fun i => A.t i) w (by omega) (by omega) ha
  have cd := fun (w' : World) (hb : Below w.heap.size w w') => distances_any va n x A w' hn hx ((ArcI.below ha hb (Nat.le_refl _)).mono hb.size) hA
  have cn := fun (w' : World) (vd : Value) (f : Nat) (hb : Below w.heap.size w w') (hd : Row w' w'.heap.size .i64 vd n (fun i => (A.ds n x i : Nat))) => nearest_any va vd n x f A w' ((ArcI.below ha hb (Nat.le_refl _)).mono hb.size) hA hd
  have CC := Lib.hid cc; have CD := Lib.hid cd; have CN := Lib.hid cn
  have fine : Fine n A.m (fun i => A.s i) (fun i => A.t i) := ⟨by omega, by omega, fun i hi => by have := hA i hi; show 0 ≤ ((A.s i : Nat) : Int) ∧ ((A.s i : Nat) : Int) < (n : Int) ∧ 0 ≤ ((A.t i : Nat) : Int) ∧ ((A.t i : Nat) : Int) < (n : Int); omega⟩
  have FI := Lib.hid fine; have HA := Lib.hid hA; have ON := Lib.hid hon
  have HF := Lib.hid (A.q_on hon 0 (Nat.zero_le _)).2.2
  obtain ⟨i0, hi, hz0, hz1, hz2⟩ := info_parts Try.info3
  have HI := Lib.hid hi; have HZ0 := Lib.hid hz0; have HZ1 := Lib.hid hz1; have HZ2 := Lib.hid hz2
  clear cc cd cn fine ha hA hon hi hz0 hz1 hz2
  have hx1 : ¬ ((x : Int) < 0) := by omega
  have hx2 : ¬ ((n : Int) ≤ (x : Int)) := by omega
  go_enter Try.func12, Try.ntmps12
  go_wp2_with fail
  refine CC.out.mono ?_
  rintro e w1 ⟨⟨rfl, _⟩ | ⟨_, hbad⟩, hb1⟩
  · have CD1 := Lib.hid (CD.out w1 hb1); have HB1 := Lib.hid hb1
    clear CC CD FI hb1
    go_wp2_with fail
    refine CD1.out.mono ?_
    rintro e w2 ⟨vd, rfl, hrow, hb2⟩
    have HB2 := Lib.hid (below_then HB1.out hb2 HB1.out.size); have ROW := Lib.hid hrow
    clear hrow hb2 CD1 HB1
    go_wp2_with fail
    have O3 := Lib.hid (own_start w2 3 A n x w2.heap.size (Nat.le_refl _))
    have HB3 := Lib.hid (HB2.out.alloc HB2.out.size (.cells #[.int .i64 (x : Nat)] 3))
    have R3 := Lib.hid (ROW.out.below ((Below.refl _ w2).alloc (Nat.le_refl _) (.cells #[.int .i64 (x : Nat)] 3)) (Nat.le_refl _))
    have S3 := Lib.hid (show w2.heap.size ≤ (w2.alloc (.cells #[.int .i64 (x : Nat)] 3)).heap.size by simp)
    have SZ := Lib.hid HB2.out.size
    clear HB2 ROW
    clear hx1 hx2
    generalize hw3 : w2.alloc (.cells #[.int .i64 (x : Nat)] 3) = w3 at *
    clear hw3
    go_loopg [10] (A.far n x + 1) (fun gk v wr => ∃ i, i + gk = A.far n x + 1 ∧ 1 ≤ gk ∧ wr.ownsRow w2.heap.size 3 1 v (i + 1) (qs A n x i) ∧ Row wr w2.heap.size .i64 vd n (fun i => (A.ds n x i : Nat)) ∧ Below w.heap.size w wr ∧ w2.heap.size ≤ wr.heap.size)
    case atStart => exact ⟨0, by omega, by omega, O3.out, R3.out, HB3.out, S3.out⟩
    case round =>
      clear O3 R3 HB3 S3
      obtain ⟨i, hig, hg1, hown, hrow, hb, hsz⟩ := hrel
      obtain ⟨g, cap, rfl, hgb, hgl, hgc⟩ := own_at hown
      have OW := Lib.hid hown; have RW := Lib.hid hrow; have HB := Lib.hid hb; have S := Lib.hid hsz
      have c0 := hgc i (Nat.le_refl _)
      obtain ⟨qb, qd, _⟩ := A.q_on ON.out i (by omega)
      have CN1 := Lib.hid (CN.out wr vd (A.q n x i) hb (hrow.mono hsz))
      have QB := Lib.hid qb; have QD := Lib.hid qd
      have QL := Lib.hid (A.q_lt HA.out hx ON.out (i + 1) (by omega))
      have QX := Lib.hid (fun h => A.q_not ON.out i h); have QE := Lib.hid (A.q_back ON.out)
      have IG := Lib.hid hig
      have GB := Lib.hid hgb
      clear hown hrow hb hsz hgb hgl hgc qb qd CN hig
      have hi64 : i ≤ 64 := by have := HF.out; have := IG.out; omega
      obtain ⟨ad, cdd, rfl, _, hdc⟩ := RW.out
      obtain ⟨bd, od, rfl, hbD, hdc⟩ := hdc (by have := HF.out; omega)
      have z0 : wr.cell? ⟨bd, od + A.q n x (i + 1), none⟩ = some (.int .i64 (A.far n x - i : Nat)) := by rw [← QD.out]; exact hdc _ QL.out
      have DL := Lib.hid (show A.far n x - i < n by have := HF.out; omega)
      clear hdc
      generalize hqi : A.q n x i = qi at *
      generalize hqn : A.q n x (i + 1) = qn at *
      have HQI := Lib.hid hqi; have HQN := Lib.hid hqn
      clear hqi hqn
      go_wp2_with fail
      refine CN1.out.mono ?_
      rintro e w4 ⟨⟨vb, vf, rfl, hbst⟩, hb4⟩
      obtain ⟨rfl, rfl⟩ : vb = .int .i64 qn ∧ vf = .bool true := by
        rcases hbst with ⟨h, _⟩ | ⟨b, h1, _, h2, h3⟩
        · rw [QB.out] at h; cases h
        · rw [QB.out] at h1
          obtain rfl := Option.some.inj h1
          exact ⟨h2, h3⟩
      have zz : w4.cell? ⟨bd, od + qn, none⟩ = some (.int .i64 (A.far n x - i : Nat)) := by
        rw [hb4.cell (p := ⟨bd, od + qn, none⟩) (Nat.lt_of_lt_of_le hbD S.out)]; exact z0
      have OW4 := Lib.hid (own_kept OW.out hb4)
      have RW4 := Lib.hid (RW.out.below hb4 S.out); have HB4 := Lib.hid (below_then HB.out hb4 HB.out.size); have S4 := Lib.hid (Nat.le_trans S.out hb4.size)
      have dl := DL.out
      have ql := QL.out
      clear hbst hb4 z0 c0 CN1 OW RW HB
      generalize hdd : A.far n x - i = dd at *
      have HDD := Lib.hid hdd
      clear hdd
      have hdn : ¬ ((n : Int) ≤ (dd : Int)) := by omega
      by_cases hif : i = A.far n x
      · have hqx : qn = x := by rw [← HQN.out, hif]; exact QE.out
        subst hqx
        have FIN := Lib.hid (show Row w4 w4.heap.size .i64 (.slice (some ⟨g, 0, none⟩) (i + 1) cap) (A.far n qn + 1) (fun j => (A.q n qn j : Nat)) by rw [← hif]; exact own_row OW4.out)
        clear hif
        go_wp2
        go_ret2
        exact ⟨_, rfl, FIN.out, HB4.out⟩
      · have IL := Lib.hid (show i < A.far n x by have := IG.out; omega)
        have hqx : ¬ (qn = x) := QX.out IL.out
        have hqx' : ((qn : Int) == (x : Int)) = false := by simp; omega
        have hqx'' : ¬ ((qn : Int) = (x : Int)) := by omega
        clear hif
        go_wp2_with (at_builtin; refine wpList_append_own _ rfl _ _ 30 rfl w2.heap.size 3 i0 (.int .i64 0) 1 8 Try.underlying30 HI.out HZ0.out HZ1.out HZ2.out rfl (by decide) _ (i + 1) (qs A n x i) rfl (OW4.out.alloc _) ⟨w4.heap.size, 0, none⟩ 1 1 [Value.int .i64 (qn : Nat)] rfl ?qc1 ?qc2 ?qc3 ?qc4 ?qc5 ?qc6 ?_)
        case qc1 => rfl
        case qc2 =>
          intro j u hj
          rcases j with _ | j
          · simp at hj; subst hj; rw [Addr.add_lit, (Bk.new w4 _ _).cell]; rfl
          · simp at hj
        case qc3 => intro u hu; simp at hu; subst hu; rfl
        case qc4 => unfold maxLen; omega
        case qc5 => omega
        case qc6 => simp; exact Nat.le_succ_of_le S4.out
        intro v' w5 hown hgrow hnil
        have OW5 := Lib.hid (show w5.ownsRow w2.heap.size 3 1 v' (i + 1 + 1) (qs A n x (i + 1)) by rw [qs_succ, HQN.out]; exact hown)
        have HB5 := Lib.hid ((HB4.out.alloc HB4.out.size (.cells #[.int .i64 (qn : Nat)] 3)).grown hgrow (by have := HB4.out.size; simp; omega) (by intro k hk; simp [Value.ownBlock] at hk; subst hk; exact Nat.le_trans SZ.out GB.out))
        have RW5 := Lib.hid (show Row w5 w2.heap.size .i64 (.slice (some ⟨bd, od, none⟩) n cdd) n (fun i => (A.ds n x i : Nat)) from RW4.out.below (((Below.refl w2.heap.size w4).alloc S4.out (.cells #[.int .i64 (qn : Nat)] 3)).grown hgrow (by have := S4.out; simp; omega) (by intro k hk; simp [Value.ownBlock] at hk; subst hk; exact GB.out)) (Nat.le_refl _))
        have S5 := Lib.hid (show w2.heap.size ≤ w5.heap.size by have := hgrow.size; simp at this; have := S4.out; omega)
        clear hown hgrow hnil OW4 RW4 HB4 S4 hqx hqx' hqx''
        go_wp2
        go_roundg (gk - 1)
        case measure => omega
        case rel => exact ⟨i + 1, by have := IG.out; have := IL.out; omega, by have := IG.out; have := IL.out; omega, OW5.out, RW5.out, HB5.out, S5.out⟩
  · exact absurd FI.out hbad

set_option maxHeartbeats 4000000 in
theorem circle_off (va : Value) (n x : Nat) (A : Arcs) (w : World) (hn : n ≤ 64) (hx : x < n) (ha : IsArcs w w.heap.size va A) (hA : A.In n) (hon : A.on n x = false) :
    Calls Try.prog 12 #[.int .i64 n, va, .int .i64 x] w fun e w' => e = .returned (.tuple #[.slice none 0 0, .int .i64 0]) ∧ Below w.heap.size w w' := by
  have cc := check_any n va A.m (fun i => A.s i) (fun i => A.t i) w (by omega) (by omega) ha
  have cd := fun (w' : World) (hb : Below w.heap.size w w') => distances_any va n x A w' hn hx ((ArcI.below ha hb (Nat.le_refl _)).mono hb.size) hA
  have cn := fun (w' : World) (vd : Value) (f : Nat) (hb : Below w.heap.size w w') (hd : Row w' w'.heap.size .i64 vd n (fun i => (A.ds n x i : Nat))) => nearest_any va vd n x f A w' ((ArcI.below ha hb (Nat.le_refl _)).mono hb.size) hA hd
  have CC := Lib.hid cc; have CD := Lib.hid cd; have CN := Lib.hid cn
  have fine : Fine n A.m (fun i => A.s i) (fun i => A.t i) := ⟨by omega, by omega, fun i hi => by have := hA i hi; show 0 ≤ ((A.s i : Nat) : Int) ∧ ((A.s i : Nat) : Int) < (n : Int) ∧ 0 ≤ ((A.t i : Nat) : Int) ∧ ((A.t i : Nat) : Int) < (n : Int); omega⟩
  have FI := Lib.hid fine; have OFF := Lib.hid (fun b => A.best_off (b := b) hon)
  clear cc cd cn fine ha hA hon
  have hx1 : ¬ ((x : Int) < 0) := by omega
  have hx2 : ¬ ((n : Int) ≤ (x : Int)) := by omega
  go_enter Try.func12, Try.ntmps12
  go_wp2_with fail
  refine CC.out.mono ?_
  rintro e w1 ⟨⟨rfl, _⟩ | ⟨_, hbad⟩, hb1⟩
  · have CD1 := Lib.hid (CD.out w1 hb1); have HB1 := Lib.hid hb1
    clear CC CD FI hb1
    go_wp2_with fail
    refine CD1.out.mono ?_
    rintro e w2 ⟨vd, rfl, hrow, hb2⟩
    have HB2 := Lib.hid (below_then HB1.out hb2 HB1.out.size); have ROW := Lib.hid hrow
    clear hrow hb2 CD1 HB1
    go_wp2_with fail
    have HB3 := Lib.hid (HB2.out.alloc HB2.out.size (.cells #[.int .i64 (x : Nat)] 3))
    have R3 := Lib.hid ((ROW.out.below ((Below.refl _ w2).alloc (Nat.le_refl _) (.cells #[.int .i64 (x : Nat)] 3)) (Nat.le_refl _)).mono (show w2.heap.size ≤ (w2.alloc (.cells #[.int .i64 (x : Nat)] 3)).heap.size by simp))
    have c0 := (Bk.new w2 3 #[.int .i64 (x : Nat)]).cell 0
    simp only [List.getElem?_toArray, List.getElem?_cons_zero] at c0
    clear HB2 ROW
    clear hx1 hx2
    generalize hw3 : w2.alloc (.cells #[.int .i64 (x : Nat)] 3) = w3 at *
    clear hw3
    go_loopg [10] 1 (fun gk v wr => v = .slice (some ⟨w2.heap.size, 0, none⟩) 1 1 ∧ wr = w3)
    case atStart => exact ⟨rfl, rfl⟩
    case round =>
      obtain ⟨rfl, rfl⟩ := hrel
      have CN1 := Lib.hid (CN.out _ vd x HB3.out R3.out)
      obtain ⟨ad, cdd, rfl, _, hdc⟩ := R3.out
      obtain ⟨bd, od, rfl, hbD, hdc⟩ := hdc (by omega)
      have HDC := Lib.hid hdc
      clear hdc CN
      go_wp2_with fail
      refine CN1.out.mono ?_
      rintro e w4 ⟨⟨vb, vf, rfl, hbst⟩, hb4⟩
      have HB4 := Lib.hid (below_then HB3.out hb4 HB3.out.size)
      rcases hbst with ⟨_, rfl, rfl⟩ | ⟨b, h1, h2, rfl, rfl⟩
      · clear hb4 c0
        go_wp2
        go_ret2
        exact ⟨rfl, HB4.out⟩
      · have h3 := OFF.out b h1
        have z0 := HDC.out b h2
        rw [← hb4.cell (p := ⟨bd, od + b, none⟩) hbD] at z0
        have HB1 := Lib.hid h1
        clear hb4 c0 h1
        generalize A.ds n x b = db at *
        have h3' : (n : Int) ≤ (db : Int) := by omega
        go_wp2
        go_ret2
        exact ⟨rfl, HB4.out⟩
  · exact absurd FI.out hbad

/-- What Circle refuses. -/
def Rfs (n : Int) (m : Nat) (s t : Nat → Int) (x : Int) : Prop := ¬ Fine n m s t ∨ x < 0 ∨ n ≤ x
set_option maxHeartbeats 1000000 in
theorem circle_bad (va : Value) (n x : Int) (m : Nat) (s t : Nat → Int) (w : World) (h0 : -9223372036854775808 ≤ n) (h1 : n ≤ 9223372036854775807) (ha : ArcI w w.heap.size va m s t) (hf : Rfs n m s t x) :
    Calls Try.prog 12 #[.int .i64 n, va, .int .i64 x] w fun e w' => e = .returned (.tuple #[.slice none 0 0, .int .i64 1]) ∧ Below w.heap.size w w' := by
  have cc := check_any n va m s t w h0 h1 ha
  have CC := Lib.hid cc
  clear cc
  rcases hf with hf | hf
  · have HF := Lib.hid hf
    clear hf
    go_enter Try.func12, Try.ntmps12
    go_wp2_with fail
    refine CC.out.mono ?_
    rintro e w1 ⟨⟨rfl, h⟩ | ⟨rfl, _⟩, hb1⟩
    · exact absurd h HF.out
    · go_wp2
      go_ret2
      exact ⟨rfl, hb1⟩
  · rcases (show x < 0 ∨ (¬ x < 0 ∧ n ≤ x) by omega) with h | ⟨h, h'⟩
    all_goals
      clear hf
      go_enter Try.func12, Try.ntmps12
      go_wp2_with fail
      refine CC.out.mono ?_
      rintro e w1 ⟨⟨rfl, hh⟩ | ⟨rfl, _⟩, hb1⟩
      · clear hh
        go_wp2
        go_ret2
        exact ⟨rfl, hb1⟩
      · go_wp2
        go_ret2
        exact ⟨rfl, hb1⟩
end Go.Proofs.Ytehifnkpmhbimaa
