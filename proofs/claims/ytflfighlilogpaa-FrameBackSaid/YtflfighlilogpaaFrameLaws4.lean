/- The walk of FrameBack. -/
import Derived.Test.YtflfighlilogpaaFrameLaws3
set_option linter.unusedVariables false
set_option linter.unusedSimpArgs false
namespace Go.Proofs.Ytflfighlilogpaa
open Go.RowKit Go.ChangeShapes Go.WideShapes Go.ChangeAt Go.Deep

namespace Fr
def barr (m : Nat → Bool) : Array Value := #[.bool (m 0), .bool (m 1), .bool (m 2), .bool (m 3)]
theorem barr_get (m : Nat → Bool) (k : Nat) (h : k < 4) : (barr m)[k]? = some (.bool (m k)) := by
  rcases four h with rfl | rfl | rfl | rfl <;> rfl
/-- Sectors of two pages, mixed at the first k places. -/
def mixz (m : Nat → Bool) (S T : Nat → ByteArray) (k i : Nat) : ByteArray := if i < k ∧ m i = true then T i else S i
def cnt (m : Nat → Bool) : Nat → Nat
  | 0 => 0
  | k + 1 => cnt m k + if m k = true then 1 else 0
theorem cnt_le (m : Nat → Bool) (k : Nat) : cnt m k ≤ k := by
  induction k with
  | zero => exact Nat.le_refl _
  | succ k ih =>
    simp only [cnt]
    split <;> omega
theorem mixz_zero (m : Nat → Bool) (S T : Nat → ByteArray) : arr (mixz m S T 0) = arr S := by simp [arr, mixz]
theorem mixz_yes (m : Nat → Bool) (S T : Nat → ByteArray) (k : Nat) (h : k < 4) (hm : m k = true) : (arr (mixz m S T k)).setIfInBounds k (.string (T k)) = arr (mixz m S T (k + 1)) := by
  rcases four h with rfl | rfl | rfl | rfl <;> simp [arr, mixz, hm]
theorem mixz_no (m : Nat → Bool) (S T : Nat → ByteArray) (k : Nat) (h : k < 4) (hm : m k = false) : arr (mixz m S T k) = arr (mixz m S T (k + 1)) := by
  rcases four h with rfl | rfl | rfl | rfl <;> simp [arr, mixz, hm]
theorem cnt4 (m : Nat → Bool) : cnt m 4 = (if m 0 = true then 1 else 0) + (if m 1 = true then 1 else 0) + (if m 2 = true then 1 else 0) + (if m 3 = true then 1 else 0) := by simp [cnt]
theorem cnt_none {m : Nat → Bool} (h : cnt m 4 = 0) : ∀ i, i < 4 → m i = false := by
  rw [cnt4] at h
  intro i hi
  rcases four hi with rfl | rfl | rfl | rfl <;> (rw [Bool.eq_false_iff]; intro e; simp [e] at h)
theorem cnt_all {m : Nat → Bool} (h : cnt m 4 = 4) : ∀ i, i < 4 → m i = true := by
  rw [cnt4] at h
  intro i hi
  rcases four hi with rfl | rfl | rfl | rfl <;> (rcases e : m _ <;> simp [e] at h ⊢; split at h <;> split at h <;> split at h <;> omega)
theorem cnt_some {m : Nat → Bool} (h0 : cnt m 4 ≠ 0) (h4 : cnt m 4 ≠ 4) : ∃ i j, i < 4 ∧ j < 4 ∧ m i = true ∧ m j = false := by
  rw [cnt4] at h0 h4
  rcases e0 : m 0 <;> rcases e1 : m 1 <;> rcases e2 : m 2 <;> rcases e3 : m 3 <;> simp [e0, e1, e2, e3] at h0 h4
  all_goals first
    | exact ⟨0, 1, by omega, by omega, e0, e1⟩ | exact ⟨0, 2, by omega, by omega, e0, e2⟩ | exact ⟨0, 3, by omega, by omega, e0, e3⟩
    | exact ⟨1, 0, by omega, by omega, e1, e0⟩ | exact ⟨2, 0, by omega, by omega, e2, e0⟩ | exact ⟨3, 0, by omega, by omega, e3, e0⟩
theorem opened_congr {s t : Nat → ByteArray} (h : ∀ i, i < 4 → s i = t i) : opened s = opened t := by
  have h0 := h 0 (by omega); have h1 := h 1 (by omega); have h2 := h 2 (by omega); have h3 := h 3 (by omega)
  simp [opened, openG, h0, h1, h2, h3]
theorem mix_open {a b : ByteArray} {one two : Nat} (m : Nat → Bool) (ha : a.size = 224) (hb : b.size = 224) (h1 : one < 18446744073709551616) (h2 : two < 18446744073709551616) :
    ∃ o : ByteArray × Nat × Int, opened (mixz m (sec a (mk one)) (sec b (mk two)) 4) = o ∧ (cnt m 4 = 0 → o = (a, one, 0)) ∧ (cnt m 4 = 4 → o = (b, two, 0)) ∧
      (cnt m 4 ≠ 0 → cnt m 4 ≠ 4 → one ≠ two → o = (⟨#[]⟩, 0, 30)) ∧ (one = two → o.2 = (one, 0)) := by
  refine ⟨_, rfl, fun h => ?_, fun h => ?_, fun h0 h4 hne => ?_, fun he => ?_⟩
  · rw [opened_congr (t := sec a (mk one)) (fun i hi => by unfold mixz; rw [if_neg]; rw [cnt_none h i hi]; simp), opened_sec ha (mk_size _), mk_val _ h1]
  · rw [opened_congr (t := sec b (mk two)) (fun i hi => by unfold mixz; rw [if_pos]; exact ⟨hi, cnt_all h i hi⟩), opened_sec hb (mk_size _), mk_val _ h2]
  · obtain ⟨i, j, hi, hj, mi, mj⟩ := cnt_some h0 h4
    have hsz : ∀ i, i < 4 → (mixz m (sec a (mk one)) (sec b (mk two)) 4 i).size = 64 := by
      intro i hi
      unfold mixz
      split
      · exact sec_size hb (mk_size _) hi
      · exact sec_size ha (mk_size _) hi
    have hti : tl (mixz m (sec a (mk one)) (sec b (mk two)) 4 i) = mk two := by
      unfold mixz; rw [if_pos ⟨hi, mi⟩]; exact sec_tl hb hi
    have htj : tl (mixz m (sec a (mk one)) (sec b (mk two)) 4 j) = mk one := by
      unfold mixz; rw [if_neg (by rw [mj]; simp)]; exact sec_tl ha hj
    refine opened_torn hsz ?_
    by_cases e : tl (mixz m (sec a (mk one)) (sec b (mk two)) 4 0) = mk one
    · exact ⟨i, hi, by rw [hti, e]; exact fun e => hne (mk_inj h2 h1 e).symm⟩
    · exact ⟨j, hj, by rw [htj]; exact fun e' => e e'.symm⟩
  · subst he
    have hsz : ∀ i, i < 4 → (mixz m (sec a (mk one)) (sec b (mk one)) 4 i).size = 64 := by
      intro i hi
      unfold mixz
      split
      · exact sec_size hb (mk_size _) hi
      · exact sec_size ha (mk_size _) hi
    have ht : ∀ i, i < 4 → tl (mixz m (sec a (mk one)) (sec b (mk one)) 4 i) = mk one := by
      intro i hi
      unfold mixz
      split
      · exact sec_tl hb hi
      · exact sec_tl ha hi
    rw [opened_ok hsz (fun i hi => by rw [ht i hi, ht 0 (by omega)]), ht 0 (by omega), mk_val _ h1]
theorem mixz_size {a b : ByteArray} {one two : Nat} (m : Nat → Bool) (ha : a.size = 224) (hb : b.size = 224) : ∀ i, i < 4 → (mixz m (sec a (mk one)) (sec b (mk two)) 4 i).size ≤ maxLen := by
  intro i hi
  have : (64 : Nat) ≤ maxLen := by decide
  unfold mixz
  split
  · rw [sec_size hb (mk_size _) hi]; exact this
  · rw [sec_size ha (mk_size _) hi]; exact this
end Fr

/-- Two pages, their stamps, which sectors are of the second. -/
structure Mxd where
  a : ByteArray
  b : ByteArray
  one : Nat
  two : Nat
  m : Nat → Bool
def mxv (x : Mxd) : Value := .agg #[.string x.a, .string x.b, .int .u64 x.one, .int .u64 x.two, .bool (x.m 0), .bool (x.m 1), .bool (x.m 2), .bool (x.m 3)]

theorem read_mixed {H : Type} {enc : TypeId × Value → H} {w : World} {base : Nat} {held : Bool} {r : Reach} {b0 : Nat} {d : DataW H} {p : List MemPlace} {v : Value}
    (hv : Value.okWide Try.prog w r b0 37 v) (h : DataW.Trod enc Try.prog w base (fun _ => true) held 37 v d p) :
    ∃ x : Mxd, v = mxv x ∧ x.a.size ≤ maxLen ∧ x.b.size ≤ maxLen ∧ x.one < 18446744073709551616 ∧ x.two < 18446744073709551616 := by
  obtain ⟨cs, rfl, hsz⟩ := okWide_struct Try.underlying37 hv
  obtain ⟨l⟩ := cs
  have h8 : Try.prog.cellsOf 37 = 8 := by kernel_rfl
  rw [h8] at hsz
  have cS : Try.prog.cellsOf 9 = 1 := by kernel_rfl
  have cU : Try.prog.cellsOf 22 = 1 := by kernel_rfl
  have cB : Try.prog.cellsOf 4 = 1 := by kernel_rfl
  have cA : Try.prog.cellsOf 35 = 4 := by kernel_rfl
  match l, hsz with
  | [c0, c1, c2, c3, c4, c5, c6, c7], _ =>
    obtain ⟨fuel, hf⟩ := h
    obtain ⟨xs, n, _, _, _, hlen, hg⟩ := DataW.trod_struct Try.underlying37 hf
    have g0 : DataW.trod enc Try.prog w base (fun _ => true) held n 9 ([c0, c1, c2, c3, c4, c5, c6, c7].drop 0 |>.take (Try.prog.cellsOf 9)) = xs[0]? := hg 0 _ rfl
    have g1 : DataW.trod enc Try.prog w base (fun _ => true) held n 9 ([c0, c1, c2, c3, c4, c5, c6, c7].drop 1 |>.take (Try.prog.cellsOf 9)) = xs[1]? := hg 1 _ rfl
    have g2 : DataW.trod enc Try.prog w base (fun _ => true) held n 22 ([c0, c1, c2, c3, c4, c5, c6, c7].drop 2 |>.take (Try.prog.cellsOf 22)) = xs[2]? := hg 2 _ rfl
    have g3 : DataW.trod enc Try.prog w base (fun _ => true) held n 22 ([c0, c1, c2, c3, c4, c5, c6, c7].drop 3 |>.take (Try.prog.cellsOf 22)) = xs[3]? := hg 3 _ rfl
    have g4 : DataW.trod enc Try.prog w base (fun _ => true) held n 35 ([c0, c1, c2, c3, c4, c5, c6, c7].drop 4 |>.take (Try.prog.cellsOf 35)) = xs[4]? := hg 4 _ rfl
    rw [cS] at g0 g1
    rw [cU] at g2 g3
    rw [cA] at g4
    have hx : ∀ i, i < xs.length → ∃ y, xs[i]? = some y := fun i hi => ⟨_, List.getElem?_eq_getElem hi⟩
    have hl5 : xs.length = 5 := hlen
    obtain ⟨y0, e0⟩ := hx 0 (by omega)
    obtain ⟨y1, e1⟩ := hx 1 (by omega)
    obtain ⟨y2, e2⟩ := hx 2 (by omega)
    obtain ⟨y3, e3⟩ := hx 3 (by omega)
    obtain ⟨y4, e4⟩ := hx 4 (by omega)
    obtain ⟨s0, hs0, _, z0⟩ := DataW.trod_string Try.underlying9 (g0.trans e0)
    obtain ⟨s1, hs1, _, z1⟩ := DataW.trod_string Try.underlying9 (g1.trans e1)
    obtain ⟨n2, hn2, _, z2⟩ := DataW.trod_int Try.underlying22 (g2.trans e2)
    obtain ⟨n3, hn3, _, z3⟩ := DataW.trod_int Try.underlying22 (g3.trans e3)
    obtain ⟨xb, mb, _, _, _, hbl, hb⟩ := DataW.trod_array Try.underlying35 (g4.trans e4)
    simp at hs0 hs1 hn2 hn3
    subst hs0 hs1 hn2 hn3
    have b2 : 0 ≤ n2 ∧ n2 ≤ 18446744073709551615 := by simpa [Lit.wf, IntKind.min, IntKind.max, IntKind.signed, IntKind.bits] using z2
    have b3 : 0 ≤ n3 ∧ n3 ≤ 18446744073709551615 := by simpa [Lit.wf, IntKind.min, IntKind.max, IntKind.signed, IntKind.bits] using z3
    obtain ⟨k2, rfl⟩ := Int.eq_ofNat_of_zero_le b2.1
    obtain ⟨k3, rfl⟩ := Int.eq_ofNat_of_zero_le b3.1
    rw [cB] at hb
    have hbb : ∀ i, i < 4 → ∃ q : Bool, ([c4, c5, c6, c7] : List Value)[i]? = some (.bool q) := by
      intro i hi
      have hxi : xb[i]? = some (xb[i]'(by omega)) := List.getElem?_eq_getElem (by omega)
      obtain ⟨q, hq, _⟩ := DataW.trod_bool Try.underlying4 ((hb i hi).trans hxi)
      refine ⟨q, ?_⟩
      rcases Fr.four hi with rfl | rfl | rfl | rfl <;> simpa using hq
    obtain ⟨q0, f0⟩ := hbb 0 (by omega)
    obtain ⟨q1, f1⟩ := hbb 1 (by omega)
    obtain ⟨q2, f2⟩ := hbb 2 (by omega)
    obtain ⟨q3, f3⟩ := hbb 3 (by omega)
    simp at f0 f1 f2 f3
    subst f0 f1 f2 f3
    exact ⟨⟨s0, s1, k2, k3, fun i => if i = 0 then q0 else if i = 1 then q1 else if i = 2 then q2 else q3⟩, rfl, z0, z1, by show k2 < _; omega, by show k3 < _; omega⟩

theorem seal_fit (body : ByteArray) (n : Nat) (hn : n < 18446744073709551616) : ∃ (S : Nat → ByteArray) (e : Int),
    (∀ w, Calls Try.prog 8 #[.string body, .int .u64 n] w fun x w' => x = .returned (.tuple #[Fr.sv S, .int .i64 e]) ∧ Below w.heap.size w w') ∧
    ((e == 0) = ((body.size : Int) == 224)) := by
  by_cases h : body.size = 224
  · exact ⟨_, 0, fun w => seal_good body n w h hn, by simp [h]⟩
  · exact ⟨_, 1, fun w => seal_bad body n w h, by simp; omega⟩

set_option maxHeartbeats 2000000 in
theorem back_bad (a b : ByteArray) (one two : Nat) (m : Nat → Bool) (w : World) (hab : ((a.size : Int) != 224) = true ∨ ((a.size : Int) != 224) = false ∧ ((b.size : Int) != 224) = true) (h1 : one < 18446744073709551616) (h2 : two < 18446744073709551616) :
    Calls Try.prog 4 #[mxv ⟨a, b, one, two, m⟩] w fun e w' => e = .returned (.bool true) ∧ Below w.heap.size w w' := by
  obtain ⟨S, e1, c1, t1⟩ := seal_fit a one h1
  obtain ⟨T, e2, c2, t2⟩ := seal_fit b two h2
  unfold Fr.sv at c1 c2
  have C1 := Lib.hid c1; have C2 := Lib.hid c2; have T1 := Lib.hid t1; have T2 := Lib.hid t2
  clear c1 c2 t1 t2
  unfold mxv
  simp only
  rcases hab with ha | ⟨ha, hb⟩
  all_goals
    go_enter Try.func4, Try.ntmps4
    have gx := Bk.new w 37 #[.string a, .string b, .int .u64 one, .int .u64 two, .bool (m 0), .bool (m 1), .bool (m 2), .bool (m 3)]
    have x0 := gx.cell 0; have x1 := gx.cell 1; have x2 := gx.cell 2; have x3 := gx.cell 3; have x4 := gx.cell 4; have x5 := gx.cell 5; have x6 := gx.cell 6; have x7 := gx.cell 7
    simp only [List.getElem?_toArray, List.getElem?_cons_zero, List.getElem?_cons_succ] at x0 x1 x2 x3 x4 x5 x6 x7
    clear gx
    go_wp2_with fail
    go_region
    go_wp2_with fail
    go_outline
    refine (awake_any _).mono ?_
    rintro e w1 ⟨rfl, hb1⟩
    have hB1 : Below w.heap.size w w1 := below_then (((Below.refl _ _).alloc (Nat.le_refl _) _).alloc (by simp) _).drew hb1 (by simp; omega)
    clear hb1
    go_wp2_with fail
    refine (C1.out _).mono ?_
    rintro e w2 ⟨rfl, hb2⟩
    have hB2 := below_then hB1 hb2 hB1.size
    clear hb2 hB1
    go_wp2_with fail
    refine (C2.out _).mono ?_
    rintro e w3 ⟨rfl, hb3⟩
    have hB3 := (below_then (hB2.alloc hB2.size _) hb3 (by simp; have := hB2.size; omega))
    have hB4 := hB3.alloc hB3.size (.cells #[.string (T 0), .string (T 1), .string (T 2), .string (T 3)] 23)
    clear hb3 hB2 hB3
    have f1 : ((e1 == 0) == ((a.size : Int) == 224)) = true := by rw [T1.out]; simp
    have f2 : ((e2 == 0) == ((b.size : Int) == 224)) = true := by rw [T2.out]; simp
    have HB4 := Lib.hid hB4; clear hB4
    go_wp2
    go_ret
    exact ⟨rfl, HB4.out⟩

set_option maxHeartbeats 4000000 in
theorem back_core (a b : ByteArray) (one two : Nat) (m : Nat → Bool) (w : World) (ha : a.size = 224) (hb : b.size = 224) (h1 : one < 18446744073709551616) (h2 : two < 18446744073709551616) :
    Calls Try.prog 4 #[mxv ⟨a, b, one, two, m⟩] w fun e w' => e = .returned (.bool true) ∧ Below w.heap.size w w' := by
  have c1 := fun w => seal_good a one w ha h1
  have c2 := fun w => seal_good b two w hb h2
  rw [show Oct.str one 8 = Fr.mk one from rfl] at c1
  rw [show Oct.str two 8 = Fr.mk two from rfl] at c2
  have h64 : (64 : Nat) ≤ maxLen := by decide
  have d1 := fun w => open_any (Fr.sec a (Fr.mk one)) w (fun i hi => by rw [Fr.sec_size ha (Fr.mk_size _) hi]; exact h64)
  rw [Fr.opened_sec ha (Fr.mk_size _), Fr.mk_val _ h1] at d1
  obtain ⟨o, ho, q1, q2, q3, q4⟩ := Fr.mix_open m ha hb h1 h2
  have d2 := fun w => open_any (Fr.mixz m (Fr.sec a (Fr.mk one)) (Fr.sec b (Fr.mk two)) 4) w (Fr.mixz_size m ha hb)
  rw [ho] at d2
  obtain ⟨ob, on, oe⟩ := o
  clear ho
  generalize Fr.sec a (Fr.mk one) = S at *
  generalize Fr.sec b (Fr.mk two) = T at *
  have e1 : (((a.size : Int)) != 224) = false := by simp [ha]
  have e2 : (((b.size : Int)) != 224) = false := by simp [hb]
  have c4 := Fr.cnt_le m 4
  unfold Fr.sv at c1 c2 d1 d2
  simp only at d1 d2
  have C1 := Lib.hid c1; have C2 := Lib.hid c2; have D1 := Lib.hid d1; have D2 := Lib.hid d2
  have Q1 := Lib.hid q1; have Q2 := Lib.hid q2; have Q3 := Lib.hid q3; have Q4 := Lib.hid q4; have C4 := Lib.hid c4
  clear c1 c2 d1 d2 q1 q2 q3 q4 ha hb h1 h2 h64 c4
  unfold mxv
  simp only
  go_enter Try.func4, Try.ntmps4
  have gx := Bk.new w 37 #[.string a, .string b, .int .u64 one, .int .u64 two, .bool (m 0), .bool (m 1), .bool (m 2), .bool (m 3)]
  have x0 := gx.cell 0; have x1 := gx.cell 1; have x2 := gx.cell 2; have x3 := gx.cell 3; have x4 := gx.cell 4; have x5 := gx.cell 5; have x6 := gx.cell 6; have x7 := gx.cell 7
  simp only [List.getElem?_toArray, List.getElem?_cons_zero, List.getElem?_cons_succ] at x0 x1 x2 x3 x4 x5 x6 x7
  clear gx
  go_wp2_with fail
  go_region
  go_wp2_with fail
  refine (awake_any _).mono ?_
  rintro e w1 ⟨rfl, hb1⟩
  have gM1 : Bk w1 (w.heap.size + 1) 35 (Fr.barr m) := ((Bk.new2 w _ _ _).drew).kept hb1
  have hB1 : Below w.heap.size w w1 := below_then (((Below.refl _ _).alloc (Nat.le_refl _) _).alloc (by simp) _).drew hb1 (by simp; omega)
  clear hb1 x0 x1 x2 x3 x4 x5 x6 x7
  go_wp2_with fail
  refine (C1.out _).mono ?_
  rintro e w2 ⟨rfl, hb2⟩
  have gM2 := (gM1.kept hb2).alloc (.cells #[.string (S 0), .string (S 1), .string (S 2), .string (S 3)] 23)
  have gS2 : Bk (w2.alloc (.cells #[.string (S 0), .string (S 1), .string (S 2), .string (S 3)] 23)) w2.heap.size 23 (Fr.arr S) := Bk.new _ _ _
  have hB2 := (below_then hB1 hb2 hB1.size)
  have hB2 := hB2.alloc hB2.size (.cells #[.string (S 0), .string (S 1), .string (S 2), .string (S 3)] 23)
  clear hb2 hB1 gM1
  go_wp2_with fail
  refine (C2.out _).mono ?_
  rintro e w3 ⟨rfl, hb3⟩
  have gM3 := (gM2.kept hb3).alloc (.cells #[.string (T 0), .string (T 1), .string (T 2), .string (T 3)] 23)
  have gS3 := (gS2.kept hb3).alloc (.cells #[.string (T 0), .string (T 1), .string (T 2), .string (T 3)] 23)
  have gT3 : Bk (w3.alloc (.cells #[.string (T 0), .string (T 1), .string (T 2), .string (T 3)] 23)) w3.heap.size 23 (Fr.arr T) := Bk.new _ _ _
  have hB3 := (below_then hB2 hb3 hB2.size)
  have hB3 := hB3.alloc hB3.size (.cells #[.string (T 0), .string (T 1), .string (T 2), .string (T 3)] 23)
  have s0 := gS3.cell 0; have s1 := gS3.cell 1; have s2 := gS3.cell 2; have s3 := gS3.cell 3
  simp only [Fr.arr, List.getElem?_toArray, List.getElem?_cons_zero, List.getElem?_cons_succ] at s0 s1 s2 s3
  have GM3 := Lib.hid gM3; have GS3 := Lib.hid gS3; have GT3 := Lib.hid gT3; have HB3 := Lib.hid hB3
  clear hb3 hB2 gM2 gS2 gM3 gS3 gT3 hB3
  go_wp2_with fail
  refine (D1.out _).mono ?_
  rintro e w4 ⟨rfl, hb4⟩
  have gM4 := (GM3.out.kept hb4); have gS4 := GS3.out.kept hb4; have gT4 := GT3.out.kept hb4
  have hB4 := (below_then HB3.out hb4 HB3.out.size)
  have s0 := gS4.cell 0; have s1 := gS4.cell 1; have s2 := gS4.cell 2; have s3 := gS4.cell 3
  simp only [Fr.arr, List.getElem?_toArray, List.getElem?_cons_zero, List.getElem?_cons_succ] at s0 s1 s2 s3
  have lM := gM4.lt; have lT := gT4.lt
  have gM5 := gM4.alloc (.cells #[.string (S 0), .string (S 1), .string (S 2), .string (S 3)] 23)
  have gT5 := gT4.alloc (.cells #[.string (S 0), .string (S 1), .string (S 2), .string (S 3)] 23)
  have gZ5 : Bk (w4.alloc (.cells #[.string (S 0), .string (S 1), .string (S 2), .string (S 3)] 23)) w4.heap.size 23 (Fr.arr S) := Bk.new _ _ _
  have hB5 := hB4.alloc hB4.size (.cells #[.string (S 0), .string (S 1), .string (S 2), .string (S 3)] 23)
  have lB := hB4.size
  clear hb4 GM3 GS3 GT3 HB3 gM4 gT4 gS4 hB4
  go_wp2
  generalize w4.alloc (.cells #[.string (S 0), .string (S 1), .string (S 2), .string (S 3)] 23) = w6 at gM5 gT5 gZ5 hB5 ⊢
  go_loopw [16, 91] (fun c i wr => ∃ k : Nat, k ≤ 4 ∧ i = .int .i64 k ∧ c = .int .i64 (Fr.cnt m k) ∧ Bk wr (w.heap.size + 1) 35 (Fr.barr m) ∧ Bk wr w3.heap.size 23 (Fr.arr T) ∧ Bk wr w4.heap.size 23 (Fr.arr (Fr.mixz m S T k)) ∧ Below w.heap.size w wr) (fun c i _ => 4 - (intOf i).toNat)
  case atStart => exact ⟨0, Nat.zero_le _, rfl, rfl, gM5, gT5, by rw [Fr.mixz_zero]; exact gZ5, hB5⟩
  case round =>
    clear gM5 gT5 gZ5 hB5
    obtain ⟨k, hk, rfl, rfl, gM, gT, gZ, hB⟩ := hrel
    by_cases hlt : k < 4
    · have c1 := gM.cell k
      have c2 := gT.cell k
      have c3 := gZ.cell k
      have f3 := gZ.fz k
      have ck := Fr.cnt_le m k
      rw [Fr.barr_get _ k hlt] at c1
      rw [Fr.arr_get _ k hlt] at c2 c3
      have gM1 := gM.far (p := ⟨w4.heap.size, k, none⟩) (by simp; omega) (.string (T k))
      have gT1 := gT.far (p := ⟨w4.heap.size, k, none⟩) (by simp; omega) (.string (T k))
      have gZ1 := gZ.set k (.string (T k))
      have hB1 := hB.setCell (p := ⟨w4.heap.size, k, none⟩) lB (.string (T k))
      have GM := Lib.hid gM; have GT := Lib.hid gT; have GZ := Lib.hid gZ; have HBL := Lib.hid hB
      have GM1 := Lib.hid gM1; have GT1 := Lib.hid gT1; have GZ1 := Lib.hid gZ1; have HBL1 := Lib.hid hB1
      clear gM gT gZ hB gM1 gT1 gZ1 hB1
      by_cases hm : m k = true
      · have hc : Fr.cnt m (k + 1) = Fr.cnt m k + 1 := by simp [Fr.cnt, hm]
        have hz := Fr.mixz_yes m S T k hlt hm
        rw [hm] at c1
        have HC := Lib.hid hc; have HZ := Lib.hid hz; clear hc hz hm
        go_wp2
        go_roundw
        case rel => exact ⟨k + 1, by omega, by go_num, by rw [HC.out]; go_num, GM1.out, GT1.out, by rw [← HZ.out]; exact GZ1.out, HBL1.out⟩
        case measure => simp [intOf]; omega
      · have hm := Bool.not_eq_true _ |>.mp hm
        have hc : Fr.cnt m (k + 1) = Fr.cnt m k := by simp [Fr.cnt, hm]
        have hz := Fr.mixz_no m S T k hlt hm
        rw [hm] at c1
        have HC := Lib.hid hc; have HZ := Lib.hid hz; clear hc hz hm
        go_wp2
        go_roundw
        case rel => exact ⟨k + 1, by omega, by go_num, by rw [HC.out], GM.out, GT.out, by rw [← HZ.out]; exact GZ.out, HBL.out⟩
        case measure => simp [intOf]; omega
    · obtain rfl : k = 4 := by omega
      have z0 := gZ.cell 0; have z1 := gZ.cell 1; have z2 := gZ.cell 2; have z3 := gZ.cell 3
      simp only [Fr.arr, List.getElem?_toArray, List.getElem?_cons_zero, List.getElem?_cons_succ] at z0 z1 z2 z3
      have HBL := Lib.hid hB
      clear gM gT gZ hB
      go_wp2_with fail
      refine (D2.out _).mono ?_
      rintro e w7 ⟨rfl, hb7⟩
      have HB8 := Lib.hid (below_then HBL.out hb7 HBL.out.size)
      clear hb7 z0 z1 z2 z3
      by_cases h0 : Fr.cnt m 4 = 0
      · have hq := Q1.out h0
        simp only [Prod.mk.injEq] at hq
        obtain ⟨rfl, rfl, rfl⟩ := hq
        have g0 : (((Fr.cnt m 4 : Nat) : Int) == 0) = true := by simp [h0]
        go_wp2
        go_ret
        exact ⟨rfl, HB8.out⟩
      · have g0 : (((Fr.cnt m 4 : Nat) : Int) == 0) = false := by simp [h0]
        by_cases h4 : Fr.cnt m 4 = 4
        · have hq := Q2.out h4
          simp only [Prod.mk.injEq] at hq
          obtain ⟨rfl, rfl, rfl⟩ := hq
          have g1 : (((Fr.cnt m 4 : Nat) : Int) == 4) = true := by simp [h4]
          go_wp2
          go_ret
          exact ⟨rfl, HB8.out⟩
        · have g1 : (((Fr.cnt m 4 : Nat) : Int) == 4) = false := by simp; omega
          by_cases he : one = two
          · have hq := Q4.out he
            simp only [Prod.mk.injEq] at hq
            obtain ⟨rfl, rfl⟩ := hq
            have g2 : ((on : Int) != (two : Int)) = false := by simp [he]
            go_wp2
            go_ret
            exact ⟨rfl, HB8.out⟩
          · have hq := Q3.out h0 h4 he
            simp only [Prod.mk.injEq] at hq
            obtain ⟨rfl, rfl, rfl⟩ := hq
            have g2 : ((one : Int) != (two : Int)) = true := by simp; omega
            go_wp2
            go_ret
            exact ⟨rfl, HB8.out⟩

theorem walk_FrameBack (v : Value) (x : Mxd) (w : World) (h : v = mxv x ∧ x.a.size ≤ maxLen ∧ x.b.size ≤ maxLen ∧ x.one < 18446744073709551616 ∧ x.two < 18446744073709551616) :
    Calls Try.prog 4 #[v] w fun e w' => e = .returned (.bool true) ∧ Below w.heap.size w w' := by
  obtain ⟨rfl, _, _, h1, h2⟩ := h
  obtain ⟨a, b, one, two, m⟩ := x
  simp only at h1 h2
  by_cases ha : a.size = 224
  · by_cases hb : b.size = 224
    · exact back_core a b one two m w ha hb h1 h2
    · exact back_bad a b one two m w (.inr ⟨by simp [ha], by simp; omega⟩) h1 h2
  · exact back_bad a b one two m w (.inl (by simp; omega)) h1 h2

end Go.Proofs.Ytflfighlilogpaa
