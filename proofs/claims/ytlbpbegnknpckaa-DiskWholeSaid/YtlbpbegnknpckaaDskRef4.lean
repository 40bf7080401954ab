/- The walk of the reference's device: New. -/
import Derived.Test.YtlbpbegnknpckaaDskRef3
import Derived.Deep.RegionLaw
import Derived.Deep.AppendLies
set_option linter.unusedVariables false
set_option linter.unusedSimpArgs false
namespace Go.Proofs.Ytlbpbegnknpckaa
open Go.RowKit

/-- The reference's device while it is being made: k sectors stand. -/
structure Mk (w : World) (B g : Nat) (k : Nat) (fv : Value) : Prop where
  box : Bk w g 42 #[fv, .slice none 0 0, .int .i64 (-1), .bool false]
  row : w.ownsRow B 9 1 fv k ((blanks k).map .string)
  bg : B ≤ g

set_option maxHeartbeats 4000000 in
theorem rnew_any (n : Nat) (w : World) (h1 : 1 ≤ n) (h2 : n ≤ 16384) :
    Calls Try.prog 13 #[.int .i64 n] w fun e w' => ∃ J : Rds, e = .returned J.ptr ∧ Rk w' w.heap.size J (.start (blanks n)) ∧ Below w.heap.size w w' := by
  obtain ⟨i0, hi, hz0, hz1, hz2⟩ := info_parts Try.info9
  have CB := Lib.hid blank_any
  go_enter Try.func13, Try.ntmps13
  go_wp2
  have m0 : Mk (w.alloc (.cells #[.slice none 0 0, .slice none 0 0, .int .i64 (-1), .bool false] 42)) w.heap.size w.heap.size 0 (.slice none 0 0) := ⟨Bk.new _ _ _, World.ownsRow_nil _ _ _ _, Nat.le_refl _⟩
  have b0 := (Below.refl w.heap.size w).alloc (Nat.le_refl _) (.cells #[.slice none 0 0, .slice none 0 0, .int .i64 (-1), .bool false] 42)
  generalize w.alloc (.cells #[.slice none 0 0, .slice none 0 0, .int .i64 (-1), .bool false] 42) = w0 at *
  go_loopw [4] (fun i wr => ∃ (k : Nat) (fv : Value), k ≤ n ∧ i = .int .i64 k ∧ Mk wr w.heap.size w.heap.size k fv ∧ Below w.heap.size w wr) (fun i _ => n - (intOf i).toNat)
  case atStart => exact ⟨0, _, Nat.zero_le _, rfl, m0, b0⟩
  case round =>
    clear m0 b0
    obtain ⟨k, fv, hk, rfl, hM, hB⟩ := hrel
    by_cases hlt : k < n
    · have x0 := hM.box.cell 0
      have f0 := hM.box.fz 0
      simp only [List.getElem?_toArray, List.getElem?_cons_zero] at x0
      have HM := Lib.hid hM; have HB := Lib.hid hB
      clear hM hB
      go_wp2_with fail
      go_region_law? (first
        | (go_simp; go_at_call 25; refine (CB.out _).mono ?_; rintro e w2 ⟨rfl, hb2⟩; have b2 := HM.out.box.drew.kept hb2; have c8 := b2.cell 0; have l8 := b2.lt; have c7 := (b2.alloc (.cells #[.string (Fr.zs 64)] 9)).cell 0; simp only [List.getElem?_toArray, List.getElem?_cons_zero] at c8 c7)
        | (refine step_append_lies _ rfl _ _ 39 rfl w.heap.size 9 i0 (.string ⟨#[]⟩) 1 16 Try.underlying39 hi hz0 hz1 hz2 rfl (by decide) fv k ((blanks k).map .string) rfl (owns_of_block HM.out.row (fun j hj => (Below.heap_alloc _ _ j (Nat.lt_of_lt_of_le (owns_block HM.out.row hj).2.1 hb2.size)).trans (hb2.block j (owns_block HM.out.row hj).2.1))) ⟨w2.heap.size, 0, none⟩ 1 1 [.string (Fr.zs 64)] rfl rfl (by intro j u hj; rw [Addr.add_lit, Nat.zero_add, (Bk.new w2 9 #[.string (Fr.zs 64)]).cell j]; simpa using hj) (by intro u hu; simp at hu; subst hu; rfl) (by omega) (by unfold maxLen; omega) (by omega) (by have := HB.out.size; have := hb2.size; simp at this ⊢; omega) _ rfl ?_; intro gp cap w3 hown hgrow hat hlt3; have b3 : Bk w3 w.heap.size 42 #[fv, .slice none 0 0, .int .i64 (-1), .bool false] := ((HM.out.box.drew.kept hb2).alloc _).grown hgrow (by intro e; obtain ⟨_, _, cur, hc⟩ := owns_block HM.out.row e.symm; exact hc.ne_ HM.out.box (by decide) rfl); have c9 := b3.cell 0; have f9 := b3.fz 0; simp only [List.getElem?_toArray, List.getElem?_cons_zero] at c9))
      all_goals
        have hM2 : Mk (w3.setCell ⟨w.heap.size, 0, none⟩ (.slice (some ⟨gp, 0, none⟩) (k + 1) cap)) w.heap.size w.heap.size (k + 1) (.slice (some ⟨gp, 0, none⟩) (k + 1) cap) := by
          refine ⟨b3.set 0 _, ?_, Nat.le_refl _⟩
          have e : (blanks (k + 1)).map Value.string = (blanks k).map Value.string ++ [.string (Fr.zs 64)] := by
            unfold blanks; rw [List.replicate_succ', List.map_append]; rfl
          rw [e]
          exact owns_of_block hown (fun j hj => Below.heap_setCell _ _ _ j (by
            obtain ⟨_, _, cur, hc⟩ := owns_block hown hj
            exact hc.ne_ b3 (by decide)))
        have hB2 : Below w.heap.size w (w3.setCell ⟨w.heap.size, 0, none⟩ (.slice (some ⟨gp, 0, none⟩) (k + 1) cap)) := by
          have o1 : Below w.heap.size w w3 := (below_then HB.out.drew (hb2.alloc hb2.size (.cells #[.string (Fr.zs 64)] 9)) HB.out.size).grown hgrow (by have := HB.out.size; have := hb2.size; simp at this ⊢; omega) (fun j hj => (owns_block HM.out.row hj).1)
          exact o1.setCell (Nat.le_refl _) _
        have HM2 := Lib.hid hM2; have HB2 := Lib.hid hB2
        clear hM2 hB2 b3 c9 f9 hown hgrow hat hlt3 hb2
        go_wp2
        go_roundw
        case rel => exact ⟨k + 1, _, by omega, by go_num, HM2.out, HB2.out⟩
        case measure => simp [intOf]; omega
    · obtain rfl : k = n := by omega
      have hl : (blanks k).length = k := by simp [blanks]
      obtain ⟨f, fc, cur, rfl, hf, hh, hle, hm, hcs, ht⟩ : ∃ g cap cur, fv = .slice (some ⟨g, 0, none⟩) k cap ∧ w.heap.size ≤ g ∧ wr.heap[g]? = some (.cells cur 9 (0, 0)) ∧ k ≤ cap ∧ cap ≤ maxLen ∧ cur.size = cap * 1 ∧ cur.toList.take (k * 1) = (blanks k).map .string := by
        rcases hM.row.2 with ⟨_, e⟩ | h
        · omega
        · exact h
      have hR : Rk wr w.heap.size ⟨w.heap.size, f, fc, .slice none 0 0⟩ (.start (blanks k)) :=
        ⟨by have := hM.box; simpa [Rds.box, Dsk.start, hl] using this, ⟨cur, hh, by rw [List.length_map]; simpa [hl, Dsk.start] using ht⟩, World.ownsRow_nil _ _ _ _, Nat.le_refl _, hf,
          start_ok (by rw [hl]; exact h1) (by rw [hl]; exact h2) (fun i hi => by rw [List.getD_eq_getElem?_getD, List.getElem?_eq_getElem hi]; simp [blanks, Fr.zs_size])⟩
      have HR := Lib.hid hR; have HB := Lib.hid hB
      clear hR hB hM hh ht hcs hle hm
      go_wp2
      go_ret
      exact ⟨⟨w.heap.size, f, fc, .slice none 0 0⟩, rfl, HR.out, HB.out⟩
end Go.Proofs.Ytlbpbegnknpckaa
