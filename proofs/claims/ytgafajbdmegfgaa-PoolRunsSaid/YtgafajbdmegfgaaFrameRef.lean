/- The walks of the document's own frames. -/
import Derived.Test.YtgafajbdmegfgaaFrameWalk
set_option linter.unusedVariables false
set_option linter.unusedSimpArgs false
namespace Go.Proofs.Ytgafajbdmegfgaa
open Go.RowKit

set_option maxHeartbeats 1000000 in
theorem ropen_any (s : Nat → ByteArray) (w : World) (hs : ∀ i, i < 4 → (s i).size ≤ maxLen) :
    Calls Try.prog 59 #[Fr.sv s] w fun e w' => e = .returned (.tuple #[.string (Fr.opened s).1, .int .u64 (Fr.opened s).2.1, .int .i64 (Fr.opened s).2.2]) ∧ Below w.heap.size w w' := by
  unfold maxLen at hs
  have HS := Lib.hid hs; clear hs
  unfold Fr.sv
  go_enter Try.func59, Try.ntmps59
  go_wp2
  have g0 : Bk (w.alloc (.cells #[.string (s 0), .string (s 1), .string (s 2), .string (s 3)] 107)) w.heap.size 107 (Fr.arr s) := Bk.new _ _ _
  have hB : Below w.heap.size w (w.alloc (.cells #[.string (s 0), .string (s 1), .string (s 2), .string (s 3)] 107)) := (Below.refl _ _).alloc (Nat.le_refl _) _
  generalize w.alloc (.cells #[.string (s 0), .string (s 1), .string (s 2), .string (s 3)] 107) = w1 at g0 hB ⊢
  go_loopw [5, 6] (fun b i wr => ∃ (k : Nat) (bk : ByteArray), k ≤ 4 ∧ i = .int .i64 k ∧ b = .string bk ∧ bk.size = 56 * k ∧ Fr.opened s = Fr.openG s (4 - k) k bk ∧ (1 ≤ k → (s 0).size = 64) ∧ Bk wr w.heap.size 107 (Fr.arr s) ∧ Below w.heap.size w wr) (fun _ i _ => 4 - (intOf i).toNat)
  case atStart => exact ⟨0, ⟨#[]⟩, Nat.zero_le _, rfl, rfl, rfl, rfl, fun h => absurd h (by omega), g0, hB⟩
  case round =>
    clear g0 hB
    obtain ⟨k, bk, hk, rfl, rfl, hbk, hop, h64, g0, hB⟩ := hrel
    have c0 := g0.cell 0
    have hcell : ∀ i, i < 4 → wr.cell? ⟨w.heap.size, i, none⟩ = some (.string (s i)) := fun i hi => (g0.cell i).trans (Fr.arr_get s i hi)
    have HCELL := Lib.hid hcell; clear hcell
    simp only [Fr.arr, List.getElem?_toArray, List.getElem?_cons_zero] at c0
    have G0 := Lib.hid g0; have HB := Lib.hid hB; clear g0 hB
    have hbk' : bk.size ≤ 224 := by omega
    have HBK := Lib.hid hbk; clear hbk
    by_cases hlt : k < 4
    · have ck := HCELL.out k hlt
      have hsk := HS.out k hlt
      by_cases h1 : (s k).size = 64
      · have hne : (((s k).size : Int) != 64) = false := by simp [h1]
        have hge : 64 ≤ (s k).size := by omega
        have h0 : 64 ≤ (s 0).size := by
          by_cases e : k = 0
          · subst e; exact hge
          · have := h64 (by omega); omega
        have h064 : (s 0).size = 64 := by
          by_cases e : k = 0
          · subst e; exact h1
          · exact h64 (by omega)
        by_cases h2 : Fr.tl (s k) = Fr.tl (s 0)
        · have hstep := Fr.openG_step (b := bk) hlt h1 h2
          have e2 : (s k).extract 56 (s k).size = (s 0).extract 56 (s 0).size := h2
          have hcat : bk.size + ((s k).extract 0 56).size ≤ 9223372036854775807 := by rw [ByteArray.size_extract]; omega
          have hsz2 : (bk ++ (s k).extract 0 56).size = 56 * (k + 1) := by
            have := HBK.out
            rw [ByteArray.size_append, ByteArray.size_extract]; omega
          have HST := Lib.hid (hop.trans hstep); have HSZ := Lib.hid hsz2; have H064 := Lib.hid h064
          clear hop hstep hsz2 h1 h2 h064 h64
          go_wp2_with fail
          go_quiet (fail)
          go_wp2
          go_roundw
          case rel => exact ⟨k + 1, bk ++ (s k).extract 0 56, by omega, by go_num, rfl, HSZ.out, HST.out, fun _ => H064.out, G0.out, below_drewN HB.out _⟩
          case measure => simp [intOf]; omega
        · have hstep := Fr.openG_torn (b := bk) hlt h1 h2
          have h3 := str_ne (a := (s k).extract 56 (s k).size) (b := (s 0).extract 56 (s 0).size) h2
          have HOP := Lib.hid (hop.trans hstep)
          clear hop hstep h1 h2 h064 h64
          go_wp2_with fail
          go_quiet (fail)
          go_wp2
          go_ret3
          exact ⟨by rw [HOP.out]; rfl, below_drewN HB.out _⟩
      · have hne : (((s k).size : Int) != 64) = true := by simp; omega
        have HOP := Lib.hid (hop.trans (Fr.openG_arg hlt h1))
        clear hop h1 h64
        go_wp2
        go_ret3
        exact ⟨by rw [HOP.out]; rfl, HB.out⟩
    · obtain rfl : 4 = k := by omega
      have h064 := h64 (by omega)
      have h0 : 64 ≤ (s 0).size := by omega
      have c := fun w => rval_good ((s 0).extract 56 (s 0).size) w (by rw [ByteArray.size_extract]; omega) (by rw [ByteArray.size_extract]; omega)
      have C := Lib.hid c
      have HOP := Lib.hid hop
      clear hop c h064 h64
      go_wp2_with fail
      refine (C.out _).mono ?_
      rintro e w2 ⟨rfl, hb2⟩
      have hB2 := below_then HB.out hb2 HB.out.size
      clear hb2
      go_wp2
      go_ret3
      exact ⟨by rw [HOP.out]; rfl, hB2⟩

end Go.Proofs.Ytgafajbdmegfgaa
