/- The walk of Read. -/
import Derived.Test.YtplcddcdhnjfeaaWalTail
import Derived.Test.YtplcddcdhnjfeaaWalSec
set_option linter.unusedVariables false
set_option linter.unusedSimpArgs false
namespace Go.Proofs.Ytplcddcdhnjfeaa
open Go.RowKit

set_option maxHeartbeats 2000000 in
theorem read_no {w : World} {B : Nat} {I : Wd} {L : Lg} {S : Dsk} (h : Wl w B I L S) (x : Nat) (hx : ¬ x ∈ L.places) :
    Calls Try.prog 21 #[I.ptr, .int .i64 x] w fun e w' => e = .returned (.tuple #[.string ⟨#[]⟩, .int .i64 150]) ∧ Below w.heap.size w w' := by
  obtain ⟨c0, c1, c2, c3, c4, c5, c6, c7⟩ := h.cells
  have few := h.ok.few; have sz := h.ok.sz; have rm := h.ok.rm; have n2 := h.ok.n2
  have sr := search_any h.plc x (by omega) h.ok.asc
  have hc : L.places.contains x = false := by simpa using hx
  rw [hc] at sr
  have SR := Lib.hid sr
  unfold Wd.ptr
  clear h hx few sz rm n2 sr hc c0 c1 c2 c3 c4 c5 c6
  go_enter Try.func21, Try.ntmps21
  go_wp2_with fail
  refine SR.out.mono ?_
  rintro e w1 ⟨rfl, hb⟩
  have B1 := Lib.hid hb
  clear hb SR c7
  go_wp2
  exact bodyPost_ret (v := .tuple #[.string ⟨#[]⟩, .int .i64 150]) (by simp [results, Try.results21, go_sem]) rfl ⟨rfl, B1.out⟩
theorem row_int {w : World} {B : Nat} {v : Value} {l : List Nat} (h : w.ownsRow B 3 1 v l.length (ints l)) (h0 : 0 < l.length) : ∃ g c, v = .slice (some ⟨g, 0, none⟩) l.length c ∧ l.length ≤ c ∧ ∀ i (hi : i < l.length), w.cell? ⟨g, i, none⟩ = some (.int .i64 ((l[i] : Nat) : Int)) := by
  rcases h.2 with ⟨_, h1⟩ | ⟨g, cap, cur, hv, hg, hh, hn, hm, r⟩
  · omega
  · refine ⟨g, cap, hv, hn, fun i hi => ?_⟩
    have := h.cells (g := g) (by rw [hv]; rfl) i (.int .i64 ((l[i] : Nat) : Int)) (by unfold ints; rw [List.getElem?_map, List.getElem?_eq_getElem hi]; rfl)
    rw [Addr.add_lit, Nat.zero_add] at this
    exact this

set_option maxRecDepth 100000 in
set_option maxHeartbeats 4000000 in
theorem read_yes {w : World} {B : Nat} {I : Wd} {L : Lg} {S : Dsk} (h : Wl w B I L S) (x i nx : Nat) (hi : i < L.places.length) (hx : L.places[i] = x) (hc : L.places.countP (· < x) = i) (hn : nx = if h : i + 1 < L.places.length then L.places[i + 1] else L.fin) (h1 : x + 2 < nx) (h2 : nx ≤ L.fin) :
    Calls Try.prog 21 #[I.ptr, .int .i64 x] w fun e w' => e = .returned (.tuple #[.string (L.data.extract (x + 2 - flr L.start) (nx - flr L.start)), .int .i64 0]) ∧ Below w.heap.size w w' := by
  obtain ⟨c0, c1, c2, c3, c4, c5, c6, c7⟩ := h.cells
  have few := h.ok.few; have sz := h.ok.sz; have rm := h.ok.rm; have n2 := h.ok.n2; have big := h.ok.big; have sf := h.ok.sf; have fe := h.ok.fe
  have lo := (h.ok.hi _ (List.getElem_mem hi)).1
  rw [hx] at lo
  have fl := flr_le L.start
  have sr := search_any h.plc x (by omega) h.ok.asc
  have hct : L.places.contains x = true := by
    rw [List.contains_iff_mem, ← hx]; exact List.getElem_mem hi
  rw [hct, hc] at sr
  have SR := Lib.hid sr
  have LK := Lib.hid (fun w' (hb : Below w.heap.size w w') => h.kept hb)
  have CF := Lib.hid (fun w => floor_any L.start w (by omega))
  have BG : L.fin ≤ 1152921504606846976 := big
  have LN : L.places.length ≤ 300000 := by omega
  clear sr hct few rm
  go_enter Try.func21, Try.ntmps21
  unfold Wd.ptr
  go_wp2_with fail
  refine SR.out.mono ?_
  rintro e w1 ⟨rfl, hb⟩
  have W1 := Lib.hid (LK.out _ hb)
  have B1 := Lib.hid hb
  clear hb SR c0 c1 c2 c3 c4 c5 c6 c7 LK h
  obtain ⟨pg, pc, hpv, hpc, hpl⟩ := row_int W1.out.plc (by omega)
  obtain ⟨g, d, dv, pv⟩ := I
  dsimp only at hpv
  subst hpv
  have c3 : w1.cell? ⟨g, 3, none⟩ = some (.int .i64 L.start) := W1.out.box.cell 3
  have c4 : w1.cell? ⟨g, 4, none⟩ = some (.int .i64 L.fin) := W1.out.box.cell 4
  have c6 : w1.cell? ⟨g, 6, none⟩ = some dv := W1.out.box.cell 6
  have c7 : w1.cell? ⟨g, 7, none⟩ = some (.slice (some ⟨pg, 0, none⟩) L.places.length pc) := W1.out.box.cell 7
  as_aux_lemma =>
    go_upto_if 34 with fail
    go_cut [8] (fun s8 wx => s8 = .int .i64 nx ∧ wx = w1)
    case first =>
      by_cases hlast : i + 1 < L.places.length
      · rw [dif_pos hlast] at hn
        have p1 := hpl (i + 1) hlast
        rw [← hn] at p1
        go_wp2_with fail
        go_meet
        exact ⟨by first | rfl | rw [hn], rfl⟩
      · rw [dif_neg hlast] at hn
        have hl2 : ¬ ((i : Int) + 1 < (L.places.length : Int)) := by omega
        go_wp2_with fail
        go_meet
        exact ⟨by rw [hn], rfl⟩
    case rest =>
    obtain ⟨rfl, rfl⟩ := hcut
    clear c4 c7 hpl hpc
    obtain ⟨dg, dc, hdv, hc1, hc2, hby⟩ := row_bytes W1.out.dat (by omega)
    dsimp only at hdv
    subst hdv
    have NXL := Lib.hid (show nx - flr L.start ≤ L.data.size from by rw [sz]; omega)
    have FX := Lib.hid (show x + 2 - flr L.start < nx - flr L.start from by omega)
    have FL := Lib.hid (show flr L.start ≤ x ∧ x + 2 < nx ∧ nx ≤ 1152921504606846976 from by omega)
    clear hn h1 h2 lo sf fe sz hx hc hi big BG
    go_wp2_with fail
    refine (CF.out _).mono ?_
    rintro e w2 ⟨rfl, hw⟩
    subst w2
    obtain ⟨fs, hfs⟩ : ∃ fs, fs = flr L.start := ⟨_, rfl⟩
    rw [← hfs] at NXL FX FL ⊢
    obtain ⟨f, hf⟩ : ∃ f, f = x + 2 - fs := ⟨_, rfl⟩
    obtain ⟨t, ht⟩ : ∃ t, t = nx - fs := ⟨_, rfl⟩
    rw [← hf, ← ht] at FX
    rw [← ht] at NXL
    have HF := Lib.hid (show x + 2 - flr L.start = f ∧ nx - flr L.start = t from ⟨by rw [← hfs, hf], by rw [← hfs, ht]⟩)
    have hft : f < t := FX.out
    have htd : t ≤ L.data.size := NXL.out
    obtain ⟨h1, h2, h3⟩ := FL.out
    have SL := Lib.hid (fun W => Lib.run_slice_window (P := Try.prog) W 59 5 Try.underlying59 (by intro w; kernel_rfl) dg 0 L.data.size dc f t hft (by omega))
    have CV := Lib.hid (show (convert 59 9 (.slice (some ⟨dg, f, none⟩) (t - f) (dc - f))).run Try.prog wc = .ok (.string (L.data.extract f t)) wc from by
      have := Lib.run_convert_window (P := Try.prog) wc 59 5 9 Try.underlying59 Try.underlying5 Try.underlying9 dg 0 L.data hby f (t - f) (dc - f) (by omega)
      rw [show f + (t - f) = t by omega, Nat.zero_add] at this
      exact this)
    have SL' := Lib.hid (fun W => by have := SL.out W; rw [Nat.zero_add] at this; exact this)
    have e1 : (x : Int) + 2 - (fs : Int) = (f : Int) := by omega
    have e2 : (nx : Int) - (fs : Int) = (t : Int) := by omega
    have w1' : IntKind.i64.wrap ((x : Int) + 2) = (x : Int) + 2 := by rw [IntKind.wrap_i64]; omega
    have w2' : IntKind.i64.wrap ((f : Int)) = (f : Int) := by rw [IntKind.wrap_i64]; omega
    have w3' : IntKind.i64.wrap ((t : Int)) = (t : Int) := by rw [IntKind.wrap_i64]; omega
    have sl := SL'.out
    have cv := CV.out
    clear SL CV SL' hft htd hf ht FX NXL FL hfs hby h1 h2 h3 CF c3 hc1
    go_wp2_with fail
    exact bodyPost_ret (v := .tuple #[.string (L.data.extract f t), .int .i64 0]) (by simp [results, Try.results21, go_sem]) rfl ⟨by rw [HF.out.1, HF.out.2], B1.out⟩
end Go.Proofs.Ytplcddcdhnjfeaa
