/- Entries: a row of them as it lies; the walk of the reference's Same. -/
import Derived.Test.YtplcddcdhnjfeaaWalOpen
import Derived.Test.YtplcddcdhnjfeaaKept
import Derived.BigQuiet
import Derived.Laws.StructEq
import Derived.ChangeKeysEq
set_option linter.unusedVariables false
set_option linter.unusedSimpArgs false
namespace Go.Proofs.Ytplcddcdhnjfeaa
open Go.RowKit

/-- A slice of entries, as it lies. -/
def Ev (w : World) (B : Nat) (v : Value) (m : Nat) (fa : Nat → Nat) (fb : Nat → ByteArray) : Prop :=
  ∃ a c, v = .slice a m c ∧ m ≤ c ∧ (0 < m → ∃ b off, a = some (⟨b, off, none⟩ : Addr) ∧ b < B ∧ ∀ i, i < m → w.cell? ⟨b, off + i * 2, none⟩ = some (.int .i64 (fa i : Int)) ∧ w.cell? ⟨b, off + i * 2 + 1, none⟩ = some (.string (fb i)))
theorem Ev.kept {w w' : World} {B B' : Nat} {v : Value} {m : Nat} {fa : Nat → Nat} {fb : Nat → ByteArray} (h : Ev w B v m fa fb) (hb : Below B' w w') (hB : B ≤ B') : Ev w' B v m fa fb := by
  obtain ⟨a, c, e, hc, h⟩ := h
  refine ⟨a, c, e, hc, fun hm => ?_⟩
  obtain ⟨b, off, e1, hlt, hc⟩ := h hm
  exact ⟨b, off, e1, hlt, fun i hi => by rw [hb.cell (p := ⟨b, off + i * 2, none⟩) (by show b < B'; omega), hb.cell (p := ⟨b, off + i * 2 + 1, none⟩) (by show b < B'; omega)]; exact hc i hi⟩
theorem entry_info : (Try.prog.info? 40).map (·.size) = some 2 := by kernel_rfl
theorem entry_load (w : World) (g off : Nat) (s : Int) (d : ByteArray) (h0 : w.cell? ⟨g, off, none⟩ = some (.int .i64 s)) (h1 : w.cell? ⟨g, off + 1, none⟩ = some (.string d)) : (loadVar 40 ⟨g, off, none⟩).run Try.prog w = .ok (.agg #[.int .i64 s, .string d]) w := by
  have hl := run_loadCells_list (P := Try.prog) w ⟨g, off, none⟩ [.int .i64 s, .string d] (fun j v hv => by
    have hj : j < 2 := by have := (List.getElem?_eq_some_iff.1 hv).1; simpa using this
    rw [Addr.add_lit]
    have : j = 0 ∨ j = 1 := by omega
    rcases this with rfl | rfl
    · simpa using h0.trans hv
    · simpa using h1.trans hv)
  have hi := entry_info
  cases hq : Try.prog.info? 40 with
  | none => simp [hq] at hi
  | some i0 =>
    have hs : i0.size = 2 := by simpa [hq] using hi
    have hl2 : (loadCells ⟨g, off, none⟩ 2).run Try.prog w = .ok #[.int .i64 s, .string d] w := by simpa using hl
    simp [loadVar, isAgg, run_underlying Try.underlying40, sizeOf, typeInfo, hq, hs, hl2]
theorem Ev.at_ {w : World} {B : Nat} {v : Value} {m : Nat} {fa : Nat → Nat} {fb : Nat → ByteArray} (h : Ev w B v m fa fb) {j : Nat} (hj : j < m) : ∃ b off c, v = .slice (some ⟨b, off, none⟩) m c ∧ ∀ w', Below B w w' → (loadVar 40 ⟨b, off + j * 2, none⟩).run Try.prog w' = .ok (.agg #[.int .i64 (fa j : Int), .string (fb j)]) w' := by
  obtain ⟨a, c, rfl, -, h⟩ := h
  obtain ⟨b, off, rfl, hbB, hc⟩ := h (by omega)
  refine ⟨b, off, c, rfl, fun w' hb => ?_⟩
  obtain ⟨c0, c1⟩ := hc j hj
  exact entry_load w' b (off + j * 2) _ _ (by rw [hb.cell (p := ⟨b, off + j * 2, none⟩) hbB]; exact c0) (by rw [hb.cell (p := ⟨b, off + j * 2 + 1, none⟩) hbB]; exact c1)
def enB (a : Int) (d : ByteArray) (b : Int) (e : ByteArray) : Bool := a == b && d.toList == e.toList
theorem enB_iff (a : Int) (d : ByteArray) (b : Int) (e : ByteArray) : enB a d b e = true ↔ a = b ∧ d = e := by
  unfold enB
  simp only [Bool.and_eq_true, beq_iff_eq]
  constructor
  · rintro ⟨h1, h2⟩
    refine ⟨h1, ?_⟩
    by_cases h : d = e
    · exact h
    · have := str_ne h; rw [h2] at this; simp at this
  · rintro ⟨h1, h2⟩; rw [h1, h2]; exact ⟨rfl, rfl⟩
theorem entry_eq (k : Nat) (a : Int) (d : ByteArray) (b : Int) (e : ByteArray) (w : World) : (Op.equalIn (k + 1 + 1) 40 (.agg #[.int .i64 a, .string d]) (.agg #[.int .i64 b, .string e])).run Try.prog w = .ok (enB a d b e) w := by
  unfold enB
  go_simp
  by_cases h1 : a = b <;> by_cases h2 : d.toList = e.toList <;> simp [h1, h2]
theorem entry_neq (a : Int) (d : ByteArray) (b : Int) (e : ByteArray) (w : World) : (binOp .neq 40 (.agg #[.int .i64 a, .string d]) (.agg #[.int .i64 b, .string e])).run Try.prog w = .ok (.bool (!(enB a d b e))) w := by
  rw [run_neq_struct]
  have := entry_eq 9998 a d b e w
  rw [this]; rfl
theorem kq_run {v : World} {o : Oper} {a : Act} {K : Act → Prop} (u : Value) (hr : ∀ x : Kp v, (execOp a.eval o).run Try.prog x.1 = .ok (.value u) x.1) (h : K (a.put o.dst u)) : o.quiet Try.prog a (fun w' => ∃ x : Kp v, w' = x.1) K :=
  ⟨u, fun w ⟨x, hx⟩ => by subst hx; unfold Oper.quietAt; rw [hr x]; exact ⟨rfl, rfl⟩, h⟩
theorem kq_load {v : World} {o : Oper} {a : Act} {K : Act → Prop} (ty : TypeId) (y : Operand) (ho : o.op = .load ty y) (p : Addr) (u : Value) (hx : a.eval y = .pointer (some p))
    (hr : ∀ x : Kp v, (loadVar ty p).run Try.prog x.1 = .ok u x.1) (h : K (a.put o.dst u)) : o.quiet Try.prog a (fun w' => ∃ x : Kp v, w' = x.1) K := by
  refine kq_run _ (fun x => ?_) h
  unfold execOp
  simp only [ho, hx, Instr.loadAt, Instr.sureAddr, Sem.run_bind, Sem.run_pure, Result.andThen_ok, hr x]
theorem kq_neq {v : World} {o : Oper} {a : Act} {K : Act → Prop} (t t' : TypeId) (hg : Try.prog.eqGuardType Try.prog.depth t = false) (y z : Operand) (ho : o.op = .binOp .neq t y z t') (c d : Array Value) (u : Value) (hx : a.eval y = .agg c) (hy : a.eval z = .agg d)
    (hr : ∀ w : World, (binOp .neq t (.agg c) (.agg d)).run Try.prog w = .ok u w) (h : K (a.put o.dst u)) : o.quiet Try.prog a (fun w' => ∃ x : Kp v, w' = x.1) K := by
  refine kq_run _ (fun x => ?_) h
  unfold execOp
  have hh : (eqGuard .neq t y z (.agg c) (.agg d)).run Try.prog x.1 = .ok () x.1 := run_eqGuard_agg _ _ _ _ _ _ _ hg
  simp only [ho, hx, hy, Sem.run_bind, Sem.run_pure, Result.andThen_ok, hr x.1, hh]

set_option maxRecDepth 100000 in
set_option maxHeartbeats 4000000 in
theorem sameEv_any (w : World) (v u : Value) (m k : Nat) (fa ga : Nat → Nat) (fb gb : Nat → ByteArray) (hA : Ev w w.heap.size v m fa fb) (hB : Ev w w.heap.size u k ga gb) (hm : m ≤ 9223372036854775807) (hk : k ≤ 9223372036854775807) (P : Prop) (hP : P ↔ (m = k ∧ ∀ i, i < m → fa i = ga i ∧ fb i = gb i)) :
    Calls Try.prog 17 #[v, u] w fun e w' => ((e = .returned (.bool true) ∧ P) ∨ (e = .returned (.bool false) ∧ ¬ P)) ∧ Below w.heap.size w w' := by
  have HP := Lib.hid hP; clear hP
  have IA := Lib.hid hA; have IB := Lib.hid hB
  obtain ⟨ai, ci, rfl, -, -⟩ := hA
  obtain ⟨bi, di, rfl, -, -⟩ := hB
  by_cases hmk : m = k
  · subst hmk
    go_enter Try.func17, Try.ntmps17
    go_wp2_with fail
    go_loopw [5] (fun i wr => ∃ j : Nat, j ≤ m ∧ i = .int .i64 j ∧ (∀ q, q < j → fa q = ga q ∧ fb q = gb q) ∧ Below w.heap.size w wr) (fun i _ => m - (intOf i).toNat)
    case atStart => exact ⟨0, Nat.zero_le _, rfl, (fun q hq => absurd hq (Nat.not_lt_zero _)), Below.refl _ _⟩
    case round =>
      obtain ⟨j, hj, rfl, hall, hb⟩ := hrel
      have HB := Lib.hid hb; have ALL := Lib.hid hall
      clear hb hall
      by_cases hlt : j < m
      · obtain ⟨b1, o1, c1, e1, hl1⟩ := IA.out.at_ hlt
        obtain ⟨b2, o2, c2, e2, hl2⟩ := IB.out.at_ hlt
        obtain ⟨rfl, rfl⟩ : ai = some ⟨b1, o1, none⟩ ∧ ci = c1 := by simpa using e1
        obtain ⟨rfl, rfl⟩ : bi = some ⟨b2, o2, none⟩ ∧ di = c2 := by simpa using e2
        have HL1 := Lib.hid hl1; have HL2 := Lib.hid hl2
        have NQ := Lib.hid (fun w => entry_neq (fa j) (fb j) (ga j) (gb j) w)
        have HLT := Lib.hid hlt
        clear e1 e2 hl1 hl2
        go_wp2_with fail
        have hj0 : (0 : Int) ≤ (j : Int) := by omega
        have hjl : (j : Int) < (m : Int) := by omega
        refine wp_region_kept (by kernel_rfl) (by kernel_rfl) ?_
        (go_big_quiet_want; go_big_quiet_op; go_big_quiet_on)
        (go_big_quiet_want; go_big_quiet_op; go_big_quiet_on)
        (go_big_quiet_want; go_big_quiet_op; go_big_quiet_on)
        (go_big_quiet_want; refine kq_load 40 _ rfl ⟨b1, o1 + j * 2, none⟩ (.agg #[.int .i64 (fa j : Int), .string (fb j)]) rfl (fun x => HL1.out x.1 (HB.out.trans (x.2.mono HB.out.size))) ?_; simp only [Act.put, List.setIfInBounds_toArray, List.set_cons_succ, List.set_cons_zero]; go_big_quiet_on)
        (go_big_quiet_want; go_big_quiet_op; go_big_quiet_on)
        (go_big_quiet_want; go_big_quiet_op; go_big_quiet_on)
        (go_big_quiet_want; go_big_quiet_op; go_big_quiet_on)
        (go_big_quiet_want; refine kq_load 40 _ rfl ⟨b2, o2 + j * 2, none⟩ (.agg #[.int .i64 (ga j : Int), .string (gb j)]) rfl (fun x => HL2.out x.1 (HB.out.trans (x.2.mono HB.out.size))) ?_; simp only [Act.put, List.setIfInBounds_toArray, List.set_cons_succ, List.set_cons_zero]; go_big_quiet_on)
        (go_big_quiet_want; refine kq_neq 40 _ Try.eqGuardType40 _ _ rfl _ _ _ rfl rfl (fun w => NQ.out w) ?_; simp only [Act.put, List.setIfInBounds_toArray, List.set_cons_succ, List.set_cons_zero]; go_big_quiet_on)
        refine wpQuiet_nil ?_
        rintro _ ⟨x, rfl⟩
        have HB9 := Lib.hid (HB.out.trans (x.2.mono HB.out.size))
        cases he : enB (fa j) (fb j) (ga j) (gb j) with
        | true =>
          have HE := Lib.hid he
          clear he
          go_wp2_with fail
          go_roundw
          case rel =>
            refine ⟨j + 1, by have := HLT.out; omega, by go_num, fun q hq => ?_, HB9.out⟩
            rcases Nat.lt_or_ge q j with h1 | h1
            · exact ALL.out q h1
            · obtain rfl : q = j := by omega
              have := (enB_iff _ _ _ _).1 HE.out
              exact ⟨by omega, this.2⟩
          case measure => have := HLT.out; simp [intOf]; omega
        | false =>
          have HNO := Lib.hid (show ¬ P from fun hs => by
            have h := (HP.out.1 hs).2 j hlt
            rw [(enB_iff _ _ _ _).2 ⟨by omega, h.2⟩] at he
            cases he)
          clear he
          go_wp2
          go_ret
          exact ⟨.inr ⟨rfl, HNO.out⟩, HB9.out⟩
      · have HJ := Lib.hid (show j = m by omega)
        go_wp2
        go_ret
        exact ⟨.inl ⟨rfl, HP.out.2 ⟨by trivial, fun i hi => ALL.out i (by have := HJ.out; omega)⟩⟩, HB.out⟩
  · have hne : (m : Int) ≠ (k : Int) := by omega
    have HNO := Lib.hid (show ¬ P from fun h => hmk (HP.out.1 h).1)
    go_enter Try.func17, Try.ntmps17
    go_wp2
    go_ret
    exact ⟨.inr ⟨rfl, HNO.out⟩, Below.refl _ _⟩
end Go.Proofs.Ytplcddcdhnjfeaa
