/- The walks of package frame. -/
import Derived.Test.YtgafajbdmegfgaaGreatFramePlain
import Derived.Test.YtgafajbdmegfgaaGreatOctNum
import Derived.Test.YtgafajbdmegfgaaGreatOctVal
import Derived.Test.YtgafajbdmegfgaaGreatOctRNum
import Derived.Deep.QuietTactic
import Derived.BigQuiet
set_option linter.unusedVariables false
set_option linter.unusedSimpArgs false
namespace Go.Proofs.YtgafajbdmegfgaaGreat
open Go.RowKit

set_option maxHeartbeats 400000 in
theorem seal_bad (body : ByteArray) (stamp : Int) (w : World) (h : body.size ≠ 224) :
    Calls Tryz.prog 58 #[.string body, .int .u64 stamp] w fun e w' => e = .returned (.tuple #[Fr.sv Fr.nils, .int .i64 1]) ∧ Below w.heap.size w w' := by
  have hb : ((body.size : Int) != 224) = true := by simp; omega
  have H := Lib.hid h; clear h
  go_enter Tryz.func58, Tryz.ntmps58
  go_wp2
  exact bodyPost_ret (v := .tuple #[Fr.sv Fr.nils, .int .i64 1]) (by simp [results, Tryz.results58, go_sem, Fr.sv, Fr.nils]) rfl ⟨rfl, ((Below.refl _ _).alloc (Nat.le_refl _) _).alloc (by simp) _⟩

set_option maxHeartbeats 1000000 in
theorem seal_good (body : ByteArray) (stamp : Nat) (w : World) (h : body.size = 224) (hst : stamp < 18446744073709551616) :
    Calls Tryz.prog 58 #[.string body, .int .u64 stamp] w fun e w' => e = .returned (.tuple #[Fr.sv (Fr.sec body (Oct.str stamp 8)), .int .i64 0]) ∧ Below w.heap.size w w' := by
  have hb : ((body.size : Int) != 224) = false := by simp [h]
  have hle : 224 ≤ body.size := by omega
  have c : ∀ w : World, Calls Tryz.prog 53 #[.int .u64 stamp, .int .i64 8] w fun e w' => e = .returned (.tuple #[.string (Oct.str stamp 8), .int .i64 0]) ∧ Below w.heap.size w w' :=
    fun w => num_fits' stamp 8 w (by omega) (by omega) (by omega) (by omega) (Nat.div_eq_of_lt (by simpa using hst))
  have hm : (Oct.str stamp 8).size = 8 := Oct.str_size _ _
  have hm8 : (Oct.str stamp 8).size ≤ 8 := by omega
  have C := Lib.hid c; have H := Lib.hid h; have HST := Lib.hid hst; have HM := Lib.hid hm; clear c h hst hm
  generalize Oct.str stamp 8 = mark at *
  go_enter Tryz.func58, Tryz.ntmps58
  go_wp2_with fail
  refine (C.out _).mono ?_
  rintro e w1 ⟨rfl, hb1⟩
  have g0 : Bk w1 w.heap.size 95 (Fr.arr Fr.nils) := ((Bk.new w _ _).alloc _).kept hb1
  have g1 : Bk w1 (w.heap.size + 1) 95 (Fr.arr Fr.nils) := (Bk.new2 w _ _ (Fr.arr Fr.nils)).kept hb1
  have hB : Below w.heap.size w w1 := below_then (((Below.refl _ _).alloc (Nat.le_refl _) _).alloc (by simp) _) hb1 (by simp; omega)
  clear hb1
  have G0 := Lib.hid g0; have G1 := Lib.hid g1; have HB := Lib.hid hB; clear g0 g1 hB
  go_wp2
  go_loopw [23] (fun i wr => ∃ k : Nat, k ≤ 4 ∧ i = .int .i64 k ∧ Bk wr w.heap.size 95 (Fr.arr Fr.nils) ∧ Bk wr (w.heap.size + 1) 95 (Fr.arr (Fr.upto (Fr.sec body mark) k)) ∧ Below w.heap.size w wr) (fun i _ => 4 - (intOf i).toNat)
  case atStart => exact ⟨0, Nat.zero_le _, rfl, G0.out, by rw [Fr.upto_zero]; exact G1.out, HB.out⟩
  case round =>
    clear G0 G1 HB
    obtain ⟨k, hk, rfl, g0, g1, hB⟩ := hrel
    by_cases hlt : k < 4
    · have ck := g1.cell k
      rw [Fr.arr_get _ k hlt] at ck
      have fk := g1.fz k
      have G0 := Lib.hid (g0.far (p := ⟨w.heap.size + 1, k, none⟩) (by simp) (.string (Fr.sec body mark k)))
      have g2 := g1.set k (.string (Fr.sec body mark k))
      rw [Fr.arr_set _ k hlt] at g2
      have G2 := Lib.hid g2
      have HB := Lib.hid (hB.setCell (p := ⟨w.heap.size + 1, k, none⟩) (by simp) (.string (Fr.sec body mark k)))
      clear g0 g1 g2 hB
      have hsz : (body.extract (k * 56) ((k + 1) * 56)).size + mark.size ≤ 9223372036854775807 := by rw [ByteArray.size_extract]; omega
      have hup : (k + 1) * 56 ≤ body.size := by omega
      go_wp2
      go_roundw
      case rel => exact ⟨k + 1, by omega, by go_num, G0.out, G2.out, HB.out⟩
      case measure => simp [intOf]; omega
    · obtain rfl : 4 = k := by omega
      rw [Fr.arr_full] at g1
      have c0 := g1.cell 0; have c1 := g1.cell 1; have c2 := g1.cell 2; have c3 := g1.cell 3
      have f0 := g0.fz 0; have f1 := g0.fz 1; have f2 := g0.fz 2; have f3 := g0.fz 3
      have d0 := g0.cell 0; have d1 := g0.cell 1; have d2 := g0.cell 2; have d3 := g0.cell 3
      simp only [Fr.arr, List.getElem?_toArray, List.getElem?_cons_zero, List.getElem?_cons_succ] at c0 c1 c2 c3 d0 d1 d2 d3
      generalize hS : Fr.sec body mark = S at *
      have FIN := Lib.hid (((((hB.setCell (p := ⟨w.heap.size, 0, none⟩) (Nat.le_refl _) (.string (S 0))).setCell (p := ⟨w.heap.size, 1, none⟩) (Nat.le_refl _) (.string (S 1))).setCell (p := ⟨w.heap.size, 2, none⟩) (Nat.le_refl _) (.string (S 2))).setCell (p := ⟨w.heap.size, 3, none⟩) (Nat.le_refl _) (.string (S 3))))
      have HS := Lib.hid hS
      clear g0 g1 hB hS
      go_wp2
      exact bodyPost_ret (v := .tuple #[Fr.sv S, .int .i64 0]) (by simp [results, Tryz.results58, go_sem, Fr.sv, f0, f1, f2, f3, d0, d1, d2, d3]) rfl ⟨by rw [HS.out], FIN.out⟩

theorem run_index4 (s : Nat → ByteArray) (k : Nat) (hk : k < 4) (w : World) :
    (Instr.index 95 (.agg #[.string (s 0), .string (s 1), .string (s 2), .string (s 3)]) (.int .i64 k)).run Tryz.prog w = .ok (.string (s k)) w := by
  rcases Fr.four hk with rfl | rfl | rfl | rfl <;> kernel_rfl

set_option maxHeartbeats 1000000 in
theorem open_any (s : Nat → ByteArray) (w : World) (hs : ∀ i, i < 4 → (s i).size ≤ maxLen) :
    Calls Tryz.prog 50 #[Fr.sv s] w fun e w' => e = .returned (.tuple #[.string (Fr.opened s).1, .int .u64 (Fr.opened s).2.1, .int .i64 (Fr.opened s).2.2]) ∧ Below w.heap.size w w' := by
  unfold maxLen at hs
  have HS := Lib.hid hs; clear hs
  unfold Fr.sv
  go_enter Tryz.func50, Tryz.ntmps50
  go_wp2
  have g0 : Bk (w.alloc (.cells #[.string (s 0), .string (s 1), .string (s 2), .string (s 3)] 95)) w.heap.size 95 (Fr.arr s) := Bk.new _ _ _
  have hB : Below w.heap.size w (w.alloc (.cells #[.string (s 0), .string (s 1), .string (s 2), .string (s 3)] 95)) := (Below.refl _ _).alloc (Nat.le_refl _) _
  generalize w.alloc (.cells #[.string (s 0), .string (s 1), .string (s 2), .string (s 3)] 95) = w1 at g0 hB ⊢
  go_loopw [5, 11] (fun b i wr => ∃ (k : Nat) (bk : ByteArray), k ≤ 4 ∧ i = .int .i64 k ∧ b = .string bk ∧ bk.size = 56 * k ∧ Fr.opened s = Fr.openG s (4 - k) k bk ∧ (1 ≤ k → (s 0).size = 64) ∧ Bk wr w.heap.size 95 (Fr.arr s) ∧ Below w.heap.size w wr) (fun _ i _ => 4 - (intOf i).toNat)
  case atStart => exact ⟨0, ⟨#[]⟩, Nat.zero_le _, rfl, rfl, rfl, rfl, fun h => absurd h (by omega), g0, hB⟩
  case round =>
    clear g0 hB
    obtain ⟨k, bk, hk, rfl, rfl, hbk, hop, h64, g0, hB⟩ := hrel
    have c0 := g0.cell 0
    simp only [Fr.arr, List.getElem?_toArray, List.getElem?_cons_zero] at c0
    have G0 := Lib.hid g0; have HB := Lib.hid hB; clear g0 hB
    have hbk' : bk.size ≤ 224 := by omega
    have HBK := Lib.hid hbk; clear hbk
    by_cases hlt : k < 4
    · have hix := fun w => run_index4 s k hlt w
      have hsk := HS.out k hlt
      by_cases h1 : (s k).size = 64
      · have hne : (((s k).size : Int) != 64) = false := by simp [h1]
        have hge : 64 ≤ (s k).size := by omega
        have h0 : 64 ≤ (s 0).size := by
          by_cases e : k = 0
          · subst e; exact hge
          · have := h64 (by omega); omega
        have h064 : (s 0).size = 64 := by
          by_cases e : k = 0
          · subst e; exact h1
          · exact h64 (by omega)
        by_cases h2 : Fr.tl (s k) = Fr.tl (s 0)
        · have hstep := Fr.openG_step (b := bk) hlt h1 h2
          have e2 : (s k).extract 56 (s k).size = (s 0).extract 56 (s 0).size := h2
          have hcat : bk.size + ((s k).extract 0 56).size ≤ 9223372036854775807 := by rw [ByteArray.size_extract]; omega
          have hsz2 : (bk ++ (s k).extract 0 56).size = 56 * (k + 1) := by
            have := HBK.out
            rw [ByteArray.size_append, ByteArray.size_extract]; omega
          have HST := Lib.hid (hop.trans hstep); have HSZ := Lib.hid hsz2; have H064 := Lib.hid h064
          clear hop hstep hsz2 h1 h2 h064 h64
          go_wp2_with fail
          go_quiet (fail)
          go_wp2
          go_roundw
          case rel => exact ⟨k + 1, bk ++ (s k).extract 0 56, by omega, by go_num, rfl, HSZ.out, HST.out, fun _ => H064.out, G0.out, below_drewN HB.out _⟩
          case measure => simp [intOf]; omega
        · have hstep := Fr.openG_torn (b := bk) hlt h1 h2
          have h3 := str_ne (a := (s k).extract 56 (s k).size) (b := (s 0).extract 56 (s 0).size) h2
          have HOP := Lib.hid (hop.trans hstep)
          clear hop hstep h1 h2 h064 h64
          go_wp2_with fail
          go_quiet (fail)
          go_wp2
          go_ret3
          exact ⟨by rw [HOP.out]; rfl, below_drewN HB.out _⟩
      · have hne : (((s k).size : Int) != 64) = true := by simp; omega
        have HOP := Lib.hid (hop.trans (Fr.openG_arg hlt h1))
        clear hop h1 h64
        go_wp2
        go_ret3
        exact ⟨by rw [HOP.out]; rfl, HB.out⟩
    · obtain rfl : 4 = k := by omega
      have h064 := h64 (by omega)
      have h0 : 64 ≤ (s 0).size := by omega
      have c := fun w => val_good ((s 0).extract 56 (s 0).size) w (by rw [ByteArray.size_extract]; omega) (by rw [ByteArray.size_extract]; omega)
      have C := Lib.hid c
      have HOP := Lib.hid hop
      clear hop c h064 h64
      go_wp2_with fail
      refine (C.out _).mono ?_
      rintro e w2 ⟨rfl, hb2⟩
      have hB2 := below_then HB.out hb2 HB.out.size
      clear hb2
      go_wp2
      go_ret3
      exact ⟨by rw [HOP.out]; rfl, hB2⟩

end Go.Proofs.YtgafajbdmegfgaaGreat
