/- The walk of slices.Repeat at []string, of one string. -/
import Derived.Test.YtgafajbdmegfgaaGreatDskLib
set_option linter.unusedVariables false
set_option linter.unusedSimpArgs false
namespace Go.Proofs.YtgafajbdmegfgaaGreat
open Go.RowKit

/-- A row: m times s, then empty strings. -/
def rp (s : ByteArray) (k m : Nat) : Array Value := (List.replicate m (Value.string s) ++ List.replicate (k - m) (Value.string ⟨#[]⟩)).toArray
theorem rp_size (s : ByteArray) (k m : Nat) (h : m ≤ k) : (rp s k m).size = k := by simp [rp]; omega
theorem rp_zero (s : ByteArray) (k : Nat) : rp s k 0 = madeCells #[.string ⟨#[]⟩] k := by
  unfold rp madeCells
  apply Array.ext'
  simp
  apply List.ext_getElem
  · simp
  · intro i h1 h2; simp [Nat.mod_one]
theorem rp_head (s : ByteArray) (k m j : Nat) (h : j < m) : (rp s k m)[j]? = some (.string s) := by
  simp [rp, List.getElem?_append, h]
theorem rp_step (s : ByteArray) (k m c : Nat) (h : m + c ≤ k) : ((rp s k m).toList.take m ++ List.replicate c (Value.string s) ++ (rp s k m).toList.drop (m + (List.replicate c (Value.string s)).length)).toArray = rp s k (m + c) := by
  unfold rp
  congr 1
  simp only [List.length_replicate, List.take_left' (List.length_replicate ..)]
  rw [List.drop_append, List.length_replicate, List.drop_eq_nil_of_le (by simp), List.nil_append, List.drop_replicate, List.replicate_append_replicate]
  congr 2
  omega

set_option maxHeartbeats 2000000 in
set_option maxRecDepth 100000 in
theorem repeat_any (b : Nat) (s : ByteArray) (k : Nat) (w : World) (hk : 1 ≤ k) (hk2 : k ≤ 16384) (hc : w.cell? ⟨b, 0, none⟩ = some (.string s)) :
    Calls Tryz.prog 19 #[.slice (some ⟨b, 0, none⟩) 1 1, .int .i64 k] w fun e w' => e = .returned (.slice (some ⟨w.heap.size, 0, none⟩) k k) ∧ Bk w' w.heap.size 9 (rp s k k) ∧ Below w.heap.size w w' := by
  obtain ⟨i0, hi, hz0, hz1, hz2⟩ := info_parts Tryz.info9
  have hmk := fun wx => run_make (P := Tryz.prog) wx 65 9 i0 (.string ⟨#[]⟩) Tryz.underlying65 hi hz0 .i64 .i64 k k (by omega) (by omega) (by rw [hz2]; omega) (by omega)
  simp only [hz1, Nat.mul_one, Value.cells, Int.toNat_natCast, ← rp_zero s k] at hmk
  have hsz : (Tryz.prog.info? 9).map (·.size) = some 1 := by rw [hi]; simp [hz1]
  have cm := mul_any 1 k (by omega) (by omega)
  rw [Nat.one_mul, Nat.div_eq_of_lt (by omega), Nat.mod_eq_of_lt (by omega)] at cm
  have CM := Lib.hid cm; clear cm
  have hB : b < w.heap.size := World.block_lt_of_cell? w _ hc
  have hcp1 := fun ty => run_copy_row (P := Tryz.prog) (w.alloc (.cells (rp s k 0) 9)) 65 65 ty 9 w.heap.size 0 k k ⟨b, 0, none⟩ 1 1 (rp s k 0) 9 [.string s] Tryz.underlying65 hsz (heap_alloc_new w _) (by simp [Nat.min_def]; omega) (by intro j v hj; rcases j with _ | j <;> simp at hj; subst hj; exact Lib.cell?_alloc_some _ hc) (by rw [rp_size _ _ _ (by omega)]; simpa using hk) (by simp [Value.oneCell'])
  rw [show [Value.string s] = List.replicate 1 (Value.string s) from rfl] at hcp1
  have st := rp_step s k 0 1 (by omega)
  rw [st] at hcp1
  simp only [List.length_replicate] at hcp1
  have HI := Lib.hid hi; have HSZ := Lib.hid hsz; clear hi hz0 hz1 hz2 hsz st
  go_enter Tryz.func19, Tryz.ntmps19
  go_wp2_with fail
  refine (CM.out _).mono ?_
  rintro e w1 ⟨rfl, hw⟩
  subst w1
  go_wp2
  have g0 : Bk ((w.alloc (.cells (rp s k 0) 9)).setRow w.heap.size (rp s k 1)) w.heap.size 9 (rp s k 1) := setRow_heap _ _ _ _ _ _ (heap_alloc_new w _)
  have hb0 : Below w.heap.size w ((w.alloc (.cells (rp s k 0) 9)).setRow w.heap.size (rp s k 1)) := by
    have h0 := (Below.refl _ w).alloc (Nat.le_refl _) (.cells (rp s k 0) 9)
    exact ⟨h0.os, h0.tape, h0.output, by simp [World.setRow], fun i hi => (setRow_other _ _ _ _ (by omega)).trans (h0.block i hi)⟩
  clear hcp1 hmk
  generalize (w.alloc (.cells (rp s k 0) 9)).setRow w.heap.size (rp s k 1) = w0 at g0 hb0 ⊢
  go_loopw [8] (fun i wr => ∃ m : Nat, 1 ≤ m ∧ m ≤ k ∧ i = .int .i64 m ∧ Bk wr w.heap.size 9 (rp s k m) ∧ Below w.heap.size w wr) (fun i _ => k - (intOf i).toNat)
  case atStart => exact ⟨1, Nat.le_refl _, hk, by rfl, g0, hb0⟩
  case round =>
    clear g0 hb0
    obtain ⟨m, hm1, hm, rfl, g, hB⟩ := hrel
    by_cases hlt : m < k
    · obtain ⟨c, hc⟩ : ∃ c, c = min (k - m) m := ⟨_, rfl⟩
      have hcp := fun ty => run_copy_row (P := Tryz.prog) wr.drew 65 65 ty 9 w.heap.size m (k - m) (k - m) ⟨w.heap.size, 0, none⟩ m k (rp s k m) 9 (List.replicate c (.string s)) Tryz.underlying65 HSZ.out g.drew (by simp [hc, Nat.min_comm])
        (by
          intro j v hj
          have hj' := (List.getElem?_eq_some_iff.1 hj)
          obtain ⟨h1, h2⟩ := hj'
          simp at h1 h2
          rw [Addr.add_lit, Nat.zero_add, g.drew.cell j, rp_head s k m j (by omega), h2])
        (by rw [rp_size _ _ _ hm]; simp; omega) (by intro v hv; rw [(List.mem_replicate.1 hv).2]; rfl)
      have st := rp_step s k m c (by omega)
      rw [st] at hcp
      simp only [List.length_replicate] at hcp
      have hne : k ≠ m := by omega
      have G2 := Lib.hid (setRow_heap wr.drew w.heap.size (rp s k m) (rp s k (m + c)) 9 (0, 0) g.drew)
      have HB2 := Lib.hid hB
      clear g hB
      go_wp2_with fail
      go_region
      go_wp2
      go_roundw
      case rel =>
        rw [← hc]
        refine ⟨m + c, by omega, by omega, by go_num, G2.out, ?_⟩
        have h0 := HB2.out
        exact ⟨h0.os, h0.tape, h0.output, by simpa [World.setRow] using h0.size, fun i hi => (setRow_other _ _ _ _ (by omega)).trans (h0.block i hi)⟩
      case measure => simp [intOf]; omega
    · obtain rfl : m = k := by omega
      go_wp2
      go_ret
      exact ⟨rfl, g, hB⟩
end Go.Proofs.YtgafajbdmegfgaaGreat
