/- The shelf: pages in memory: Memory, has, Get. -/
import Derived.Test.YtelbioooggnbiaaGreatPgRow
import Derived.Test.YtelbioooggnbiaaGreatPgMem
import Derived.Test.YtelbioooggnbiaaGreatPgCmp
import Derived.BigQuiet
set_option linter.unusedVariables false
set_option linter.unusedSimpArgs false
namespace Go.Proofs.YtelbioooggnbiaaGreat
open Go.RowKit

/-- A shelf in block g, its pages in block r. -/
structure Sh (w : World) (B g r : Nat) (ps : List Pg) : Prop where
  box : Bk w g 70 #[.slice (some ⟨r, 0, none⟩) ps.length ps.length]
  row : PRow w r ps
  one : 1 ≤ ps.length
  most : ps.length ≤ 1024
  bg : B ≤ g
  br : B ≤ r
theorem Sh.kept {w w' : World} {B g r : Nat} {ps : List Pg} (h : Sh w B g r ps) (hb : Below w.heap.size w w') : Sh w' B g r ps := ⟨h.box.kept hb, h.row.kept hb, h.one, h.most, h.bg, h.br⟩
theorem Sh.of_block {w w' : World} {B g r : Nat} {ps : List Pg} (h : Sh w B g r ps) (h1 : w'.heap[g]? = w.heap[g]?) (h2 : w'.heap[r]? = w.heap[r]?) : Sh w' B g r ps := ⟨h1.trans h.box, h.row.of_block h2, h.one, h.most, h.bg, h.br⟩
/-- Is there such a page? -/
def hasId (n : Nat) (id : Int) : Prop := 0 ≤ id ∧ id < n
instance (n : Nat) (id : Int) : Decidable (hasId n id) := by unfold hasId; infer_instance
def getPg (ps : List Pg) (id : Int) : Pg × Int := if hasId ps.length id then (ps.getD id.toNat Pg.zero, 0) else (Pg.zero, 1)

theorem zeroPg (n : Nat) : madeCells Pg.zero.cs (n * 16) = (flatPg (List.replicate n Pg.zero)).toArray := by
  apply Array.ext_getElem?
  intro j
  have hl := flat_len (List.replicate n Pg.zero)
  rw [List.length_replicate] at hl
  by_cases hj : j < n * 16
  · obtain ⟨q, r, hr, rfl⟩ : ∃ q r, r < 16 ∧ j = q * 16 + r := ⟨j / 16, j % 16, Nat.mod_lt _ (by omega), by omega⟩
    have hf : (flatPg (List.replicate n Pg.zero)).toArray[q * 16 + r]? = Pg.zero.cs[r]? := by
      rw [List.getElem?_toArray]
      exact flat_get _ q Pg.zero (by rw [List.getElem?_replicate, if_pos (by omega)]) r hr
    rw [hf]
    have h0 : Pg.zero.cs.size = 16 := rfl
    have h1 : (q * 16 + r) % 16 = r := by omega
    unfold madeCells
    rw [Array.getElem?_map, Array.getElem?_eq_getElem (by simpa using hj)]
    simp only [Array.getElem_range, Option.map_some, h0, h1]
    rw [Array.getElem?_eq_getElem (by omega), getElem!_pos _ _ (by omega)]
  · rw [Array.getElem?_eq_none (by rw [size_madeCells]; omega), Array.getElem?_eq_none (by simp; omega)]
theorem Tryz.info38 : (Tryz.prog.info? 38).map (fun i => (i.zero, i.size, i.bytes)) = some (some (.agg Pg.zero.cs), 16, 176) := by kernel_rfl
theorem has_any {w : World} {B g r : Nat} {ps : List Pg} (h : Sh w B g r ps) (id : Int) :
    Calls Tryz.prog 22 #[.pointer (some ⟨g, 0, none⟩), .int .i64 id] w fun e w' => e = .returned (.bool (decide (hasId ps.length id))) ∧ w' = w := by
  have c0 : w.cell? ⟨g, 0, none⟩ = some (.slice (some ⟨r, 0, none⟩) ps.length ps.length) := h.box.cell 0
  clear h
  generalize ps.length = n at *
  go_enter Tryz.func22, Tryz.ntmps22
  by_cases h1 : 0 ≤ id
  · by_cases h2 : id < (n : Int)
    · have hd : decide (hasId n id) = true := decide_eq_true ⟨h1, h2⟩
      rw [hd]
      go_wp2
      go_ret
      exact ⟨rfl, rfl⟩
    · have hd : decide (hasId n id) = false := decide_eq_false fun h => h2 h.2
      rw [hd]
      go_wp2
      go_ret
      exact ⟨rfl, rfl⟩
  · have hd : decide (hasId n id) = false := decide_eq_false fun h => h1 h.1
    rw [hd]
    go_wp2
    go_ret
    exact ⟨rfl, rfl⟩
theorem memory_no (n : Int) (w : World) (h : ¬ (1 ≤ n ∧ n ≤ 1024)) :
    Calls Tryz.prog 17 #[.int .i64 n] w fun e w' => e = .returned (.tuple #[.pointer none, .int .i64 1]) ∧ w' = w := by
  go_enter Tryz.func17, Tryz.ntmps17
  by_cases h1 : n < 1
  · go_wp2
    exact bodyPost_ret (v := .tuple #[.pointer none, .int .i64 1]) (by simp [results, Tryz.results17, go_sem]) rfl ⟨rfl, rfl⟩
  · have h2 : 1024 < n := by omega
    go_wp2
    exact bodyPost_ret (v := .tuple #[.pointer none, .int .i64 1]) (by simp [results, Tryz.results17, go_sem]) rfl ⟨rfl, rfl⟩
def MemPost (n : Nat) (w : World) (e : Ending) (w' : World) : Prop := ∃ g r, e = .returned (.tuple #[.pointer (some ⟨g, 0, none⟩), .int .i64 0]) ∧ Sh w' w.heap.size g r (List.replicate n Pg.zero) ∧ Below w.heap.size w w'
theorem memory_good (n : Nat) (w : World) (h1 : 1 ≤ n) (h2 : n ≤ 1024) :
    Calls Tryz.prog 17 #[.int .i64 n] w (MemPost n w) := by
  obtain ⟨i0, hi, hz0, hz1, hz2⟩ := info_parts Tryz.info38
  have hmk := fun wx => run_make (P := Tryz.prog) wx 68 38 i0 (.agg Pg.zero.cs) Tryz.underlying68 hi hz0 .i64 .i64 (n : Int) (n : Int) (by omega) (by omega) (by rw [hz2]; omega) (by omega)
  simp only [hz1, Value.cells, Int.toNat_natCast, zeroPg] at hmk
  have hk : ¬ (n : Int) < 1 := by omega
  have hk2 : ¬ (1024 : Int) < (n : Int) := by omega
  go_enter Tryz.func17, Tryz.ntmps17
  go_wp2
  have hl : (List.replicate n Pg.zero).length = n := List.length_replicate
  refine bodyPost_ret (v := .tuple #[.pointer (some ⟨w.heap.size + 1, 0, none⟩), .int .i64 0]) (by simp [results, Tryz.results17, go_sem]) rfl ?_
  unfold MemPost
  refine ⟨w.heap.size + 1, w.heap.size, rfl, ⟨?_, (Bk.new w _ _).alloc _, by omega, by omega, by omega, Nat.le_refl _⟩, ((Below.refl _ _).alloc (Nat.le_refl _) _).alloc (by simp) _⟩
  rw [hl]
  exact Bk.new2 w _ _ _
end Go.Proofs.YtelbioooggnbiaaGreat
