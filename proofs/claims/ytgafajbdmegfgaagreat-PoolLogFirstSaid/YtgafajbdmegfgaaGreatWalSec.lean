/- The walks of ringPlace and sector. -/
import Derived.Test.YtgafajbdmegfgaaGreatWalApp
import Derived.Lib.SlBytesRow
set_option linter.unusedVariables false
set_option linter.unusedSimpArgs false
namespace Go.Proofs.YtgafajbdmegfgaaGreat
open Go.RowKit

theorem ring_any {w : World} {B : Nat} {I : Wd} {L : Lg} {S : Dsk} (h : Wl w B I L S) (k : Nat) (hk : k ≤ 1152921504606846976) :
    Calls Tryz.prog 59 #[I.ptr, .int .i64 k] w fun e w' => e = .returned (.int .i64 ((L.first + k % L.n : Nat) : Int)) ∧ ∃ n, w' = w.drewN n := by
  obtain ⟨-, c1, c2, -, -, -, -, -⟩ := h.cells
  have n1 := h.ok.n1; have n2 := h.ok.n2; have f1 := h.ok.f1
  have hn0 : ¬ (L.n : Int) = 0 := by omega
  have hn0' : ((L.n : Int) == 0) = false := by simp; omega
  have hn0'' : ¬ L.n = 0 := by omega
  have et : (k : Int).tmod (L.n : Int) = (k : Int) % (L.n : Int) := Int.tmod_eq_emod_of_nonneg (by omega)
  have EQ := Lib.hid (show ((L.first + k % L.n : Nat) : Int) = (L.first : Int) + (k : Int) % (L.n : Int) by rw [Int.natCast_add, Int.natCast_emod])
  have W1 := Lib.hid (show IntKind.i64.wrap ((k : Int) % (L.n : Int)) = (k : Int) % (L.n : Int) by have a := Int.emod_nonneg (k : Int) hn0; have b := Int.emod_lt_of_pos (k : Int) (show (0 : Int) < (L.n : Int) by omega); rw [IntKind.wrap_i64]; omega)
  have W2 := Lib.hid (show IntKind.i64.wrap ((L.first : Int) + (k : Int) % (L.n : Int)) = (L.first : Int) + (k : Int) % (L.n : Int) by have a := Int.emod_nonneg (k : Int) hn0; have b := Int.emod_lt_of_pos (k : Int) (show (0 : Int) < (L.n : Int) by omega); rw [IntKind.wrap_i64]; omega)
  unfold Wd.ptr
  clear h
  go_enter Tryz.func59, Tryz.ntmps59
  go_wp2_with fail
  go_quiet (fail)
  go_wp2
  go_ret
  have w3 : wrap64 ((L.first : Int) + (k : Int) % (L.n : Int)) = (L.first : Int) + (k : Int) % (L.n : Int) := by have := W2.out; rw [IntKind.wrap_i64] at this; unfold wrap64; exact this
  refine ⟨?_, _, rfl⟩
  rw [EQ.out]
  first
    | (simp only [et, W1.out, W2.out]; rfl)
    | (simp only [et, W1.out]
       generalize hq : (L.first : Int) + (k : Int) % (L.n : Int) = q at *
       rw [w3]
       rfl)

theorem row_bytes {w : World} {B : Nat} {v : Value} {s : ByteArray} (h : w.ownsRow B 5 1 v s.size (Lib.strCells s)) (h0 : 0 < s.size) : ∃ g c, v = .slice (some ⟨g, 0, none⟩) s.size c ∧ s.size ≤ c ∧ c ≤ maxLen ∧ Lib.Bytes w g 0 s := by
  rcases h.2 with ⟨_, h1⟩ | ⟨g, cap, cur, hv, hg, hh, hn, hm, r⟩
  · omega
  · refine ⟨g, cap, hv, hn, hm, fun i hi => ?_⟩
    have := h.cells (g := g) (by rw [hv]; rfl) i (.int .u8 (s[i].toNat : Int)) (by
      unfold Lib.strCells
      rw [List.getElem?_map, Array.getElem?_toList]
      have : s.data[i]? = some s[i] := Array.getElem?_eq_getElem hi
      rw [this]; rfl)
    rw [Addr.add_lit] at this
    exact this

set_option maxRecDepth 100000 in
set_option maxHeartbeats 2000000 in
theorem sector_any {w : World} {B : Nat} {I : Wd} {L : Lg} {S : Dsk} (h : Wl w B I L S) (k : Nat) (h1 : flr L.start ≤ k * 54) (h2 : k * 54 - flr L.start < L.data.size) (hk : k * 54 ≤ 1152921504606846976) :
    Calls Tryz.prog 64 #[I.ptr, .int .i64 k] w fun e w' => e = .returned (.string (L.sec k)) ∧ Below w.heap.size w w' := by
  obtain ⟨-, -, -, c3, -, -, c6, -⟩ := h.cells
  have ok := h.ok
  have CF := Lib.hid (fun w => floor_any L.start w (by have := ok.sf; have := ok.fe; have := ok.big; omega))
  have dsz : L.data.size ≤ 300000 := by have a := ok.sz; have b := ok.rm; have c := ok.n2; omega
  obtain ⟨dg, dc, hdv, hc1, hc2, hby⟩ := row_bytes h.dat (by omega)
  have fs64 : flr L.start ≤ 1152921504606846976 := by have := flr_le L.start; have := ok.sf; have := ok.fe; have := ok.big; omega
  have SEC := Lib.hid (show L.sec k = Oct.str (k + 1) 8 ++ Oct.str (L.part k).size 2 ++ L.part k ++ Fr.zs (54 - (L.part k).size) from rfl)
  have PS := Lib.hid (L.part_size k)
  have PT := Lib.hid (show L.part k = L.data.extract (k * 54 - flr L.start) (min (k * 54 - flr L.start + 54) L.data.size) from rfl)
  generalize L.part k = pt at *
  generalize L.sec k = sc at *
  have N1 := Lib.hid (fun w => show Calls Tryz.prog 30 #[.int .i64 ((k : Int) + 1), .int .i64 8] w fun e w' => e = .returned (.string (Oct.str (k + 1) 8)) ∧ Below w.heap.size w w' from wnumber_any (k + 1) 8 w (by omega) (by omega) (by omega) (by omega))
  have N2 := Lib.hid (fun w => show Calls Tryz.prog 30 #[.int .i64 (pt.size : Int), .int .i64 2] w fun e w' => e = .returned (.string (Oct.str pt.size 2)) ∧ Below w.heap.size w w' from wnumber_any pt.size 2 w (by omega) (by omega) (by have := PS.out; omega) (by have := PS.out; omega))
  have N3 := Lib.hid (fun w => show Calls Tryz.prog 46 #[.string ⟨#[0]⟩, .int .i64 (54 - (pt.size : Int))] w fun e w' => e = .returned (.string (Fr.zs (54 - pt.size))) ∧ Below w.heap.size w w' from by
    have := wzeros_any (54 - pt.size) w (by omega)
    rw [Int.natCast_sub PS.out] at this
    exact this)
  have Z1 := Lib.hid (Oct.str_size (k + 1) 8); have Z2 := Lib.hid (Oct.str_size pt.size 2); have Z3 := Lib.hid (Fr.zs_size (54 - pt.size))
  have EF := Lib.hid (show (k : Int) * 54 - ((flr L.start : Nat) : Int) = ((k * 54 - flr L.start : Nat) : Int) by omega)
  generalize Oct.str (k + 1) 8 = s1 at *
  generalize Oct.str pt.size 2 = s2 at *
  generalize Fr.zs (54 - pt.size) = s3 at *
  generalize hf : k * 54 - flr L.start = f at *
  obtain ⟨t, ht, ht2⟩ : ∃ t, t = min (f + 54) L.data.size ∧ ((f + 54 ≤ L.data.size ∧ t = f + 54) ∨ (L.data.size < f + 54 ∧ t = L.data.size)) := ⟨_, rfl, by omega⟩
  rw [← ht] at PT
  have hft : f < t := by omega
  have SL := Lib.hid (fun W => Lib.run_slice_window (P := Tryz.prog) W 63 5 Tryz.underlying63 (by intro w; kernel_rfl) dg 0 L.data.size dc f t hft (by omega))
  have CV := Lib.hid (fun q => Lib.run_convert_window (P := Tryz.prog) (w.drewN q) 63 5 9 Tryz.underlying63 Tryz.underlying5 Tryz.underlying9 dg 0 L.data (hby.drewN q) f (t - f) (dc - f) (by omega))
  have CV' := Lib.hid (fun q => by have := CV.out q; rw [show f + (t - f) = t by omega, Nat.zero_add] at this; exact this)
  have SL' := Lib.hid (fun W => by have := SL.out W; rw [Nat.zero_add] at this; exact this)
  have fle : f ≤ 300000 := by omega
  have dsi : (L.data.size : Int) ≤ 300000 := by omega
  have kk : k * 54 ≤ 1152921504606846976 := hk
  obtain ⟨g, d, dv, pv⟩ := I
  dsimp only at c3 c6 hdv
  subst hdv
  unfold Wd.ptr
  clear h ok SL CV hc1 hc2 hby h1 h2 hf ht hk
  go_enter Tryz.func64, Tryz.ntmps64
  go_wp2_with fail
  refine (CF.out _).mono ?_
  rintro e w1 ⟨rfl, hw⟩
  subst w1
  clear CF
  go_upto_region 2 with fail
  rw [EF.out]
  have sl := SL'.out
  have cv := CV'.out
  have hw : IntKind.i64.wrap ((f : Int) + 54) = (f : Int) + 54 := by rw [IntKind.wrap_i64]; omega
  have hm : min ((f : Int) + 54) (L.data.size : Int) = (t : Int) := by omega
  clear SL' CV'
  go_quiet (fail)
  rw [← PT.out]
  clear sl cv hw hm c3 c6
  have B0 := Lib.hid (below_drewN (Below.refl w.heap.size w) nq)
  have z1 := Z1.out; have z2 := Z2.out; have z3 := Z3.out; have ps := PS.out
  have n1 : ¬ 9223372036854775807 < s1.size + s2.size := by omega
  have n2 : ¬ 9223372036854775807 < s1.size + s2.size + pt.size := by omega
  have n3 : ¬ 9223372036854775807 < s1.size + s2.size + pt.size + s3.size := by omega
  clear z1 z2 z3 PT ht2 hft EF
  go_wp2_with fail
  refine (N1.out _).mono ?_
  rintro e w1 ⟨rfl, hb⟩
  have B1 := Lib.hid (below_then B0.out hb B0.out.size)
  clear hb
  go_wp2_with fail
  refine (N2.out _).mono ?_
  rintro e w2 ⟨rfl, hb⟩
  have B2 := Lib.hid (below_then B1.out hb B1.out.size)
  clear hb
  go_wp2_with fail
  refine (N3.out _).mono ?_
  rintro e w3 ⟨rfl, hb⟩
  have B3 := Lib.hid (below_then B2.out hb B2.out.size)
  clear hb
  go_wp2_with fail
  go_ret
  exact ⟨by rw [SEC.out]; rfl, B3.out⟩
end Go.Proofs.YtgafajbdmegfgaaGreat
