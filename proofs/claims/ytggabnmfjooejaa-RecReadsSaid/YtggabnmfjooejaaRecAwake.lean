/- The walk of the law's own awake. -/
import Derived.Test.YtggabnmfjooejaaRecDec1
import Derived.Test.YtggabnmfjooejaaRecEnc
set_option linter.unusedVariables false
set_option linter.unusedSimpArgs false
namespace Go.Proofs.Ytggabnmfjooejaa
open Go.RowKit Go.BigFrame

def r0 : Rc := ⟨3, 2, 54, 0, Un.zero, 0, fun _ => Im.zero, 0, fun _ => ⟨0, 0, 0⟩, 0⟩
theorem r0_ok : r0.ok := by
  refine ⟨?_, ?_, ?_, fun i hi => absurd hi (Nat.not_lt_zero i), fun i hi => absurd hi (Nat.not_lt_zero i)⟩ <;> decide
theorem rz_no : ¬ Rc.zero.ok := fun h => absurd h.1.1 (by decide)
theorem un_eq : ∀ {a b : Un}, a.k = b.k → a.st = b.st → a.pg = b.pg → a.sl = b.sl → a.key = b.key → a.bs = b.bs → a.bd = b.bd → a = b := by
  rintro ⟨⟩ ⟨⟩ rfl rfl rfl rfl rfl rfl rfl; rfl
theorem r0_read : rrec (some r0.bytes) = (r0, (rrec (some r0.bytes)).2) := by
  have h0 : rint (some r0.bytes) 1 = 3 := by decide +kernel
  have h1 : rint (rnx (some r0.bytes) 1) 4 = 2 := by decide +kernel
  have h2 : rint (rnx (rnx (some r0.bytes) 1) 4) 8 = 54 := by decide +kernel
  have h3 : rint (rnx (rnx (rnx (some r0.bytes) 1) 4) 8) 8 = 0 := by decide +kernel
  have h4 : rint (rnx (rnx (rnx (rnx (some r0.bytes) 1) 4) 8) 8) 4 = 0 := by decide +kernel
  have h5 : (rundo (rnx (rnx (rnx (rnx (rnx (some r0.bytes) 1) 4) 8) 8) 4)).1 = Un.zero :=
    un_eq (by decide +kernel) (by decide +kernel) (by decide +kernel) (by decide +kernel) (by decide +kernel) (by decide +kernel) (by decide +kernel)
  refine Prod.ext ?_ rfl
  show (rrec (some r0.bytes)).1 = r0
  unfold rrec r0
  simp only [r0] at h0 h1 h2 h3 h4 h5
  simp only [h0, h1, h2, h3, h4, h5]
theorem r0_s7 : rnx (rnx (rrec (some r0.bytes)).2 1) 1 = some ⟨#[]⟩ := by decide +kernel
theorem r0_c7 : rint (rrec (some r0.bytes)).2 1 = 0 := by decide +kernel
theorem r0_c8 : rint (rnx (rrec (some r0.bytes)).2 1) 1 = 0 := by decide +kernel
theorem r0_dec (w : World) : Calls Try.prog 13 #[.string r0.bytes] w fun e w' => e = .returned (.tuple #[.agg (r0.cs nil_ nil_), .int .i64 0]) ∧ Below w.heap.size w w' :=
  decode_head r0.bytes w (by decide +kernel) r0 (rnx (rnx (rnx (rnx (rnx (some r0.bytes) 1) 4) 8) 8) 4) _ _ (some ⟨#[]⟩) r0_read trivial rfl r0_s7 r0_c7 r0_c8 r0_ok
theorem r0_lt : 0 < r0.bytes.size := by decide +kernel
theorem r0_b0 : ((r0.bytes[0]'r0_lt).toNat : Int) = 3 := by decide +kernel
theorem store_rec_new {ops : Array Oper} {rest : List Oper} {o : Oper} {a : Act} {w : World} {Q : Exit → Act → World → Prop} (hgd : o.guard = none) (x y : Operand) (ho : o.op = .store 29 x y) (cs : Array Value) (h14 : cs.size = 14) (h1 : cs.all (·.oneCell') = true)
    (hx : a.eval x = .pointer (some ⟨w.heap.size, 0, none⟩)) (hy : a.eval y = .agg cs) (h : wpList Try.prog ops Q rest (a.put o.dst undef) (w.alloc (.cells cs 29))) : wpList Try.prog ops Q (o :: rest) a (w.alloc (.cells (Rc.zero.cs nil_ nil_) 29)) := by
  refine wpList_store_row hgd 29 x y ho w.heap.size cs hx hy 29 (Rc.zero.cs nil_ nil_) (Bk.new _ _ _) (by rw [h14]; kernel_rfl) (by rw [h14]; rfl) h1 ?_
  rw [World.setRow_alloc_new]
  exact h

set_option maxRecDepth 100000 in
set_option maxHeartbeats 4000000 in
theorem awake_any (w : World) :
    Calls Try.prog 8 #[] w fun e w' => e = .returned (.bool true) ∧ Below w.heap.size w w' := by
  have ce := fun w => lencode_good r0 nil_ nil_ w r0_ok (im_none _ _ _) (al_none _ _ _)
  have cd := r0_dec
  have ck := fun w => lcheck_any Rc.zero nil_ nil_ w (im_none _ _ _) (al_none _ _ _)
  have hz : (r0.bytes.size : Int) = 37 := by decide +kernel
  have hlt : 0 < r0.bytes.size := by decide +kernel
  have h1 : ∀ h : 0 < r0.bytes.size, ((r0.bytes[0]'h).toNat : Int) = 3 := fun _ => r0_b0
  generalize r0.bytes = S at *
  replace h1 := h1 hlt
  have hcs : r0.cs nil_ nil_ = #[.int .i64 3, .int .i64 2, .int .i64 54, .int .i64 0, .int .i64 0, .int .i64 0, .int .i64 0, .int .i64 0, .string ⟨#[]⟩, .int .i64 0, .string ⟨#[]⟩, .slice none 0 0, .slice none 0 0, .int .i64 0] := rfl
  have hc0 : Rc.zero.cs nil_ nil_ = #[.int .i64 0, .int .i64 0, .int .i64 0, .int .i64 0, .int .i64 0, .int .i64 0, .int .i64 0, .int .i64 0, .string ⟨#[]⟩, .int .i64 0, .string ⟨#[]⟩, .slice none 0 0, .slice none 0 0, .int .i64 0] := rfl
  rw [hcs] at ce cd
  rw [hc0] at ck
  have CE := Lib.hid ce; have CD := Lib.hid cd; have CK := Lib.hid ck
  clear ce cd ck hcs hc0
  go_enter Try.func8, Try.ntmps8
  go_wp2_with fail
  refine (CE.out _).mono ?_
  rintro e w2 ⟨rfl, hb2⟩
  have B2 := Lib.hid hb2
  clear hb2
  go_wp2_with fail
  refine (CD.out _).mono ?_
  rintro e w3 ⟨rfl, hb3⟩
  have B3 := Lib.hid (B2.out.trans (hb3.mono B2.out.size))
  clear hb3 B2
  have k4 := Lib.hid (Bk.new w3 29 (r0.cs nil_ nil_))
  have B4 := Lib.hid (B3.out.alloc B3.out.size (.cells (r0.cs nil_ nil_) 29))
  go_wp2_with (refine store_rec_new rfl _ _ rfl (r0.cs nil_ nil_) rfl (by simp [Value.oneCell', Rc.cs, nil_]) rfl rfl ?_; generalize (w3.alloc (.cells (r0.cs nil_ nil_) 29)) = w4 at k4 B4 ⊢; have x1 : w4.cell? ⟨w3.heap.size, 1, none⟩ = some (.int .i64 2) := k4.out.cell 1; have x2 : w4.cell? ⟨w3.heap.size, 2, none⟩ = some (.int .i64 54) := k4.out.cell 2)
  refine (CK.out _).mono ?_
  rintro e w5 ⟨⟨rfl, h⟩ | ⟨rfl, _⟩, hb5⟩
  · exact absurd h rz_no
  · have B5 := Lib.hid (B4.out.trans (hb5.mono B4.out.size))
    clear hb5
    go_wp2
    go_ret
    exact ⟨rfl, B5.out⟩
end Go.Proofs.Ytggabnmfjooejaa
