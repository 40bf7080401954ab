/- The walks of awake and FrameSeals. -/
import Derived.Test.YtflfighlilogpaaFrameRef
import Derived.Test.YtflfighlilogpaaRead
import Derived.ChangeKeysEq
import Derived.Laws.StructEq
set_option linter.unusedVariables false
set_option linter.unusedSimpArgs false
namespace Go.Proofs.Ytflfighlilogpaa
open Go.RowKit Go.ChangeShapes Go.WideShapes Go.ChangeAt Go.Deep

theorem awake_sec : (Fr.sec (Fr.zs 224) (Fr.mk 7) 3).size = 64 ∧ (Fr.sec (Fr.zs 224) (Fr.mk 7) 3).data.toList.getD 56 0 = 7 := by decide +kernel

theorem fr_get (s : ByteArray) (b : Nat) (h : b < s.size) : s[b] = s.data.toList.getD b 0 := by
  have h' : b < s.data.size := h
  show s.data[b] = _
  rw [List.getD_eq_getElem?_getD, Array.getElem?_toList, Array.getElem?_eq_getElem h']
  rfl

set_option maxHeartbeats 1000000 in
theorem awake_any (w : World) :
    Calls Try.prog 7 #[] w fun e w' => e = .returned (.bool true) ∧ Below w.heap.size w w' := by
  obtain ⟨i0, hi, hz0, hz1, hz2⟩ := info_parts Try.info5
  have hmk := fun wx => run_make (P := Try.prog) wx 39 5 i0 (.int .u8 0) Try.underlying39 hi hz0 .i64 .i64 224 224 (by omega) (by omega) (by rw [hz2]; omega) (by omega)
  simp only [hz1, Nat.mul_one, Value.cells, show (224 : Int).toNat = 224 from rfl, show madeCells #[Value.int .u8 0] 224 = Fr.zc 224 from rfl] at hmk
  clear hi hz0 hz1 hz2
  have hst := fun wx => Fr.run_zeros (P := Try.prog) wx 39 9 5 224 Try.underlying39 Try.underlying5 Try.underlying9
  have c := fun w => seal_good (Fr.zs 224) 7 w (Fr.zs_size 224) (by omega)
  have hop : Fr.opened (Fr.sec (Fr.zs 224) (Fr.mk 7)) = (Fr.zs 224, 7, 0) := by rw [Fr.opened_sec (Fr.zs_size 224) (Fr.mk_size 7), Fr.mk_val 7 (by omega)]
  have hsz : ∀ i, i < 4 → (Fr.sec (Fr.zs 224) (Fr.mk 7) i).size ≤ maxLen := fun i hi => by rw [Fr.sec_size (Fr.zs_size 224) (Fr.mk_size 7) hi]; decide
  have d := fun w => open_any (Fr.sec (Fr.zs 224) (Fr.mk 7)) w hsz
  rw [hop] at d
  rw [show Oct.str 7 8 = Fr.mk 7 from rfl] at c
  obtain ⟨s64, s56⟩ := awake_sec
  have zsz : ((Fr.zs 224).size : Int) = 224 := by rw [Fr.zs_size]; rfl
  have hz : (((Fr.zs 224).size : Int) == 224) = true := by rw [zsz]; rfl
  generalize Fr.zs 224 = z at *
  generalize Fr.sec z (Fr.mk 7) = S at *
  have g1 : (((S 3).size : Int) == 64) = true := by rw [s64]; rfl
  have h56 : 56 < (S 3).size := by omega
  have g2 : (((S 3)[56].toNat : Int) == 7) = true := by rw [fr_get (S 3) 56 h56, s56]; rfl
  have C := Lib.hid c; have D := Lib.hid d
  simp only at d
  have D := Lib.hid d
  clear c d s64 s56 hop hsz zsz
  unfold Fr.sv at C D
  go_enter Try.func7, Try.ntmps7
  go_wp2_with fail
  refine (C.out _).mono ?_
  rintro e w1 ⟨rfl, hb1⟩
  have hB1 : Below w.heap.size w w1 := below_then ((Below.refl _ _).alloc (Nat.le_refl _) _) hb1 (by simp)
  clear hb1
  go_wp2_with fail
  refine (D.out _).mono ?_
  rintro e w2 ⟨rfl, hb2⟩
  have g0 : Bk w2 w1.heap.size 23 (Fr.arr S) := (Bk.new w1 _ _).kept hb2
  have hB2 : Below w.heap.size w w2 := below_then (hB1.alloc hB1.size _) hb2 (by simp; have := hB1.size; omega)
  have c3 := g0.cell 3
  simp only [Fr.arr, List.getElem?_toArray, List.getElem?_cons_zero, List.getElem?_cons_succ] at c3
  clear g0 hb2 hB1
  go_wp2
  go_ret
  exact ⟨rfl, hB2⟩

/-- Four sectors that came in. -/
theorem read_four {H : Type} {enc : TypeId × Value → H} {w : World} {base : Nat} {held : Bool} {r : Reach} {b0 : Nat} {d : DataW H} {p : List MemPlace} {v : Value}
    (hv : Value.okWide Try.prog w r b0 23 v) (h : DataW.Trod enc Try.prog w base (fun _ => true) held 23 v d p) : ∃ s : Nat → ByteArray, v = Fr.sv s ∧ ∀ i, i < 4 → (s i).size ≤ maxLen := by
  obtain ⟨fuel, h⟩ := h
  obtain ⟨xs, m, _, _, hl, hx, hf⟩ := DataW.trod_array Try.underlying23 h
  have h4 : Try.prog.cellsOf 23 = 4 := by kernel_rfl
  have h1 : Try.prog.cellsOf 9 = 1 := by kernel_rfl
  rw [h4] at hl
  rw [h1] at hf
  have hag : ∃ cs, v = .agg cs := by
    simp only [Value.okWide, Try.underlying23] at hv
    obtain ⟨cs, h1, _⟩ := hv
    exact ⟨cs, h1⟩
  obtain ⟨cs, rfl⟩ := hag
  obtain ⟨l⟩ := cs
  have hl' : l.length = 4 := by simpa [Value.cells] using hl
  match l, hl' with
  | [c0, c1, c2, c3], _ =>
    have q : ∀ i, i < 4 → ∃ s : ByteArray, ([c0, c1, c2, c3] : List Value)[i]? = some (.string s) ∧ s.size ≤ maxLen := by
      intro i hi
      have hxi : xs[i]? = some (xs[i]'(by omega)) := List.getElem?_eq_getElem (by omega)
      have := (hf i hi).trans hxi
      obtain ⟨s, hs, _, hz⟩ := DataW.trod_string Try.underlying9 this
      refine ⟨s, ?_, hz⟩
      simp only [Nat.mul_one] at hs
      rcases Fr.four hi with rfl | rfl | rfl | rfl <;> simpa [Value.cells] using hs
    obtain ⟨s0, e0, z0⟩ := q 0 (by omega)
    obtain ⟨s1, e1, z1⟩ := q 1 (by omega)
    obtain ⟨s2, e2, z2⟩ := q 2 (by omega)
    obtain ⟨s3, e3, z3⟩ := q 3 (by omega)
    simp at e0 e1 e2 e3
    subst e0 e1 e2 e3
    refine ⟨fun i => if i = 0 then s0 else if i = 1 then s1 else if i = 2 then s2 else s3, rfl, fun i hi => ?_⟩
    rcases Fr.four hi with rfl | rfl | rfl | rfl <;> simpa

theorem seal_both (body : ByteArray) (stamp : Int) (h0 : 0 ≤ stamp) (h1 : stamp ≤ 18446744073709551615) : ∃ (S : Nat → ByteArray) (e : Int),
    (∀ w, Calls Try.prog 8 #[.string body, .int .u64 stamp] w fun x w' => x = .returned (.tuple #[Fr.sv S, .int .i64 e]) ∧ Below w.heap.size w w') ∧
    (∀ w, Calls Try.prog 9 #[.string body, .int .u64 stamp] w fun x w' => x = .returned (.tuple #[Fr.sv S, .int .i64 e]) ∧ Below w.heap.size w w') := by
  obtain ⟨n, rfl⟩ := Int.eq_ofNat_of_zero_le h0
  by_cases h : body.size = 224
  · exact ⟨_, 0, fun w => seal_good body n w h (by omega), fun w => rseal_good body n w h (by omega)⟩
  · exact ⟨_, 1, fun w => seal_bad body n w h, fun w => rseal_bad body n w h⟩

theorem info_str : ∃ i, Try.prog.info? 9 = some i := by
  have h : (Try.prog.info? 9).isSome = true := by kernel_rfl
  exact Option.isSome_iff_exists.1 h
/-- Two times four strings, held against each other. -/
theorem eql4 (a b : Nat → ByteArray) (w : World) :
    (Op.equalIn 10000 23 (.agg #[.string (a 0), .string (a 1), .string (a 2), .string (a 3)]) (.agg #[.string (b 0), .string (b 1), .string (b 2), .string (b 3)])).run Try.prog w =
      .ok (((a 0).toList == (b 0).toList) && ((a 1).toList == (b 1).toList) && ((a 2).toList == (b 2).toList) && ((a 3).toList == (b 3).toList)) w := by
  obtain ⟨i, hi⟩ := info_str
  have hp : Try.prog.plainKey 9 = true := by kernel_rfl
  have hc : Try.prog.cellsOf 9 = 1 := by kernel_rfl
  rw [show (10000 : Nat) = 9999 + 1 from rfl, run_equalIn_array w 9999 _ _ Try.underlying23 hi, hc]
  have pa : ∀ (f : Nat → ByteArray) (k : Nat), k < 4 → ∀ w : World, (part 9 #[.string (f 0), .string (f 1), .string (f 2), .string (f 3)] (k * 1)).run Try.prog w = .ok (.string (f k)) w := by
    intro f k hk w
    refine run_part_plain w hp ?_
    rw [Nat.mul_one]
    exact Fr.arr_get f k hk
  have eq : ∀ (x y : ByteArray) (w : World), (Op.equalIn 9999 9 (.string x) (.string y)).run Try.prog w = .ok (x.toList == y.toList) w := fun x y w => run_equalIn_string w 9998 9 x y Try.underlying9
  have step : ∀ (k : Nat) (is : List Nat), k < 4 → (Op.eqItems 9999 9 1 #[.string (a 0), .string (a 1), .string (a 2), .string (a 3)] #[.string (b 0), .string (b 1), .string (b 2), .string (b 3)] (k :: is)).run Try.prog w =
      if ((a k).toList == (b k).toList) = true then (Op.eqItems 9999 9 1 #[.string (a 0), .string (a 1), .string (a 2), .string (a 3)] #[.string (b 0), .string (b 1), .string (b 2), .string (b 3)] is).run Try.prog w else .ok false w := by
    intro k is hk
    simp only [Op.eqItems, Sem.run_bind, pa a k hk, pa b k hk, eq, Result.andThen_ok]
    rcases ((a k).toList == (b k).toList) <;> simp
  show (Op.eqItems 9999 9 1 _ _ [0, 1, 2, 3]).run Try.prog w = _
  rw [step 0 _ (by omega), step 1 _ (by omega), step 2 _ (by omega), step 3 _ (by omega)]
  rcases ((a 0).toList == (b 0).toList) <;> rcases ((a 1).toList == (b 1).toList) <;> rcases ((a 2).toList == (b 2).toList) <;> rcases ((a 3).toList == (b 3).toList) <;> simp [Op.eqItems]

set_option maxHeartbeats 1000000 in
theorem walk_FrameSeals (body : ByteArray) (stamp : Int) (v : Value) (s : Nat → ByteArray) (w : World) (hb : body.size ≤ maxLen) (h0 : 0 ≤ stamp) (h1 : stamp ≤ 18446744073709551615) (hs : v = Fr.sv s ∧ ∀ i, i < 4 → (s i).size ≤ maxLen) :
    Calls Try.prog 3 #[.string body, .int .u64 stamp, v] w fun e w' => e = .returned (.bool true) ∧ Below w.heap.size w w' := by
  obtain ⟨rfl, hs⟩ := hs
  obtain ⟨S, e, c1, c2⟩ := seal_both body stamp h0 h1
  have c3 := fun w => open_any s w hs
  have c4 := fun w => ropen_any s w hs
  generalize Fr.opened s = o at *
  obtain ⟨ob, on, oe⟩ := o
  simp only [Fr.sv] at c1 c2 c3 c4 ⊢
  have C1 := Lib.hid c1; have C2 := Lib.hid c2; have C3 := Lib.hid c3; have C4 := Lib.hid c4
  have heq := fun w => eql4 S S w
  simp only [beq_self_eq_true, Bool.and_self] at heq
  clear c1 c2 c3 c4 hs hb h0 h1
  go_enter Try.func3, Try.ntmps3
  go_wp2_with fail
  refine (awake_any _).mono ?_
  rintro e w1 ⟨rfl, hb1⟩
  have g5 : Bk w1 w.heap.size 23 (Fr.arr s) := (Bk.new w _ _).kept hb1
  have hB1 : Below w.heap.size w w1 := below_then ((Below.refl _ _).alloc (Nat.le_refl _) _) hb1 (by simp)
  clear hb1
  go_wp2_with fail
  refine (C1.out _).mono ?_
  rintro e w2 ⟨rfl, hb2⟩
  have g5 := g5.kept hb2
  have hB2 := below_then hB1 hb2 hB1.size
  clear hb2 hB1
  go_wp2_with fail
  refine (C2.out _).mono ?_
  rintro e w3 ⟨rfl, hb3⟩
  have g5 := (g5.alloc _).kept hb3
  have g7 : Bk w3 w2.heap.size 23 (Fr.arr S) := (Bk.new w2 _ _).kept hb3
  have hB3 := below_then (hB2.alloc hB2.size _) hb3 (by simp; have := hB2.size; omega)
  clear hb3 hB2
  have a0 := g5.cell 0; have a1 := g5.cell 1; have a2 := g5.cell 2; have a3 := g5.cell 3
  simp only [Fr.arr, List.getElem?_toArray, List.getElem?_cons_zero, List.getElem?_cons_succ] at a0 a1 a2 a3
  have l5 := g5.lt; have l7 := g7.lt
  have G5 := Lib.hid g5; have G7 := Lib.hid g7; have HB3 := Lib.hid hB3; clear g5 g7 hB3
  go_wp2_with fail
  refine (C3.out _).mono ?_
  rintro e w4 ⟨rfl, hb4⟩
  have g5 := (G5.out.alloc _).kept hb4
  have g7 := (G7.out.alloc _).kept hb4
  have g9 : Bk w4 w3.heap.size 23 (Fr.arr S) := (Bk.new w3 _ _).kept hb4
  have hB4 := below_then (HB3.out.alloc HB3.out.size _) hb4 (by simp; have := HB3.out.size; omega)
  clear hb4 a0 a1 a2 a3 G5 G7 HB3
  have a0 := g5.cell 0; have a1 := g5.cell 1; have a2 := g5.cell 2; have a3 := g5.cell 3
  simp only [Fr.arr, List.getElem?_toArray, List.getElem?_cons_zero, List.getElem?_cons_succ] at a0 a1 a2 a3
  have G7 := Lib.hid g7; have G9 := Lib.hid g9; have HB4 := Lib.hid hB4; clear g5 g7 g9 hB4
  go_wp2_with fail
  refine (C4.out _).mono ?_
  rintro e w5 ⟨rfl, hb5⟩
  have g7 := G7.out.kept hb5
  have g9 := G9.out.kept hb5
  have hB5 := below_then HB4.out hb5 HB4.out.size
  clear hb5 a0 a1 a2 a3 G7 G9 HB4
  have b0 := g7.cell 0; have b1 := g7.cell 1; have b2 := g7.cell 2; have b3 := g7.cell 3
  have d0 := g9.cell 0; have d1 := g9.cell 1; have d2 := g9.cell 2; have d3 := g9.cell 3
  simp only [Fr.arr, List.getElem?_toArray, List.getElem?_cons_zero, List.getElem?_cons_succ] at b0 b1 b2 b3 d0 d1 d2 d3
  have HB := Lib.hid hB5; clear g7 g9 hB5
  go_wp2
  go_ret
  exact ⟨rfl, HB.out⟩

end Go.Proofs.Ytflfighlilogpaa
