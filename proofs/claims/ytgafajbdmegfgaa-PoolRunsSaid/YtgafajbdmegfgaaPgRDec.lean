/- The walk of the document's own Decode. -/
import Derived.Test.YtgafajbdmegfgaaPgEq
import Derived.Test.YtgafajbdmegfgaaPgREnc
import Derived.Test.YtgafajbdmegfgaaOctVal
import Derived.Deep.RegionHeld3
set_option linter.unusedVariables false
set_option linter.unusedSimpArgs false
namespace Go.Proofs.Ytgafajbdmegfgaa
open Go.RowKit

theorem pg_cell {w : World} {g : Nat} {p : Pg} (h : Bk w g 40 p.cs) (j : Nat) (hj : j < 6) : w.cell? ⟨g, 4 + j * 2, none⟩ = some (.int .i64 (p.c j).st) ∧ w.cell? ⟨g, 4 + j * 2 + 1, none⟩ = some (.string (p.c j).d) := by
  rw [h.cell, h.cell]
  rcases six hj with rfl | rfl | rfl | rfl | rfl | rfl <;> exact ⟨rfl, rfl⟩
theorem of_good {s : ByteArray} (h : Good s) : Pg.dec s = Pg.of s ∧ decErr s = 0 := ⟨if_pos h, if_pos h⟩
theorem sval_at (x : ByteArray) (i : Nat) (h : i < x.size) : Oct.sval (x.extract i (i + 1)) = x[i].toNat := by
  rw [ByteArray.extract_add_one (by omega)]
  simp [Oct.sval, Oct.val]
theorem val_ex (s : ByteArray) (a b : Nat) (hb : b ≤ s.size) (h1 : a < b) (h2 : b ≤ a + 8) (w : World) :
    Calls Try.prog 60 #[.string (s.extract a b)] w fun e w' => e = .returned (.tuple #[.int .u64 (Oct.sval (s.extract a b)), .bool true]) ∧ Below w.heap.size w w' :=
  rval_good _ w (by rw [ex_size _ _ _ hb]; omega) (by rw [ex_size _ _ _ hb]; omega)
theorem rdec_results (tmps : Array Value) (w : World) (g : Nat) (cs : Array Value) (h : Bk w g 40 cs) (hs : cs.size = 16) (hp : tmps.getD 2 undef = .pointer (some ⟨g, 0, none⟩)) :
    (results Try.f40 tmps).run Try.prog w = .ok (.tuple #[.agg cs, tmps.getD 3 undef]) w := by
  rw [results_cell_tmp (p := 2) (u := 3) (ty := 40) rfl, hp]
  have := run_loadPage w g cs h hs
  simp [asAddr, Sem.run_pure, Result.andThen, this]

set_option maxHeartbeats 4000000 in
theorem rdecode_short (s : ByteArray) (w : World) (h : s.size ≠ 224) :
    Calls Try.prog 40 #[.string s] w fun e w' => e = .returned (.tuple #[Pg.zero.v, .int .i64 40]) ∧ Below w.heap.size w w' := by
  have hn : ((s.size : Int) == 224) = false := by simp; omega
  go_enter Try.func40, Try.ntmps40
  go_wp2
  refine bodyPost_ret (rdec_results _ _ w.heap.size Pg.zero.cs (Bk.new w _ _) rfl rfl) rfl ?_
  exact ⟨rfl, (Below.refl _ _).alloc (Nat.le_refl _) _⟩

set_option maxRecDepth 100000 in
set_option maxHeartbeats 8000000 in
theorem rdecode_long (s : ByteArray) (w : World) (hs : s.size = 224) :
    Calls Try.prog 40 #[.string s] w fun e w' => e = .returned (.tuple #[(Pg.dec s).v, .int .i64 (decErr s)]) ∧ Below w.heap.size w w' := by
  have hs64 : (s.size : Int) = 224 := by omega
  have h01 := sval1_lt (s.extract 0 1) (by rw [ex_size _ _ _ (by omega)])
  have h12 := sval1_lt (s.extract 1 2) (by rw [ex_size _ _ _ (by omega)])
  have h24 : Oct.sval (s.extract 2 4) < 65536 := by have := Oct.sval_lt (s.extract 2 4); rw [ex_size _ _ _ (by omega)] at this; exact this
  have h48 : Oct.sval (s.extract 4 8) < 4294967296 := by have := Oct.sval_lt (s.extract 4 8); rw [ex_size _ _ _ (by omega)] at this; exact this
  have c1 := val_ex s 0 1 (by omega) (by omega) (by omega)
  have c2 := val_ex s 1 2 (by omega) (by omega) (by omega)
  have c3 := val_ex s 2 4 (by omega) (by omega) (by omega)
  have c4 := val_ex s 4 8 (by omega) (by omega) (by omega)
  have ps : (⟨Oct.sval (s.extract 0 1), Oct.sval (s.extract 1 2), Oct.sval (s.extract 2 4), Oct.sval (s.extract 4 8), fun i => ⟨0, ⟨#[]⟩⟩⟩ : Pg).cs = (part s 0).cs := rfl
  generalize Oct.sval (s.extract 0 1) = n1 at h01 c1 ps
  generalize Oct.sval (s.extract 1 2) = n2 at h12 c2 ps
  generalize Oct.sval (s.extract 2 4) = n3 at h24 c3 ps
  generalize Oct.sval (s.extract 4 8) = n4 at h48 c4 ps
  have C1 := Lib.hid c1; have C2 := Lib.hid c2; have C3 := Lib.hid c3; have C4 := Lib.hid c4; have PS := Lib.hid ps
  clear c1 c2 c3 c4 ps
  go_enter Try.func40, Try.ntmps40
  go_wp2_with fail
  refine (C1.out _).mono ?_
  rintro e w1 ⟨rfl, hb1⟩
  have z1 : Bk w1 w.heap.size 40 Pg.zero.cs := (Bk.new w _ _).kept hb1
  have b1 : Below w.heap.size w w1 := below_then ((Below.refl _ _).alloc (Nat.le_refl _) (.cells Pg.zero.cs 40)) hb1 (by simp)
  have Z1 := Lib.hid z1; have B1 := Lib.hid b1
  clear z1 b1 hb1
  go_wp2_with fail
  refine (C2.out _).mono ?_
  rintro e w2 ⟨rfl, hb2⟩
  have Z2 := Lib.hid (Z1.out.kept hb2); have B2 := Lib.hid (below_then B1.out hb2 B1.out.size)
  clear hb2 Z1 B1
  go_wp2_with fail
  refine (C3.out _).mono ?_
  rintro e w3 ⟨rfl, hb3⟩
  have Z3 := Lib.hid (Z2.out.kept hb3); have B3 := Lib.hid (below_then B2.out hb3 B2.out.size)
  clear hb3 Z2 B2
  go_wp2_with fail
  refine (C4.out _).mono ?_
  rintro e w4 ⟨rfl, hb4⟩
  have Z4 := Lib.hid (Z3.out.kept hb4); have B4 := Lib.hid (below_then B3.out hb4 B3.out.size)
  clear hb4 Z3 B3 C1 C2 C3 C4
  go_wp2_with fail
  have kp : Bk (w4.alloc (.cells (⟨n1, n2, n3, n4, fun i => ⟨0, ⟨#[]⟩⟩⟩ : Pg).cs 40)) w4.heap.size 40 (⟨n1, n2, n3, n4, fun i => ⟨0, ⟨#[]⟩⟩⟩ : Pg).cs := Bk.new _ _ _
  have kz := Z4.out.alloc (.cells (⟨n1, n2, n3, n4, fun i => ⟨0, ⟨#[]⟩⟩⟩ : Pg).cs 40)
  have kb := B4.out.alloc B4.out.size (.cells (⟨n1, n2, n3, n4, fun i => ⟨0, ⟨#[]⟩⟩⟩ : Pg).cs 40)
  have hzlt := Z4.out.lt
  have hne : w4.heap.size ≠ w.heap.size := by omega
  have hle : w.heap.size ≤ w4.heap.size := by omega
  have HL := Lib.hid hle; have HN := Lib.hid hne
  clear hle hne hzlt
  have KP := Lib.hid kp; have KZ := Lib.hid kz; have KB := Lib.hid kb
  clear kp kz kb Z4 B4
  go_loopw [13] (fun i wr => ∃ j : Nat, j ≤ 6 ∧ i = .int .i64 j ∧ (∀ q, q < j → Oct.sval ((cellAt s q).extract 1 2) ≤ 34) ∧ Bk wr w4.heap.size 40 (part s j).cs ∧ Bk wr w.heap.size 40 Pg.zero.cs ∧ Below w.heap.size w wr) (fun i _ => 6 - (intOf i).toNat)
  case atStart =>
    refine ⟨0, by omega, rfl, fun q hq => absurd hq (Nat.not_lt_zero _), ?_, ?_, ?_⟩
    · rw [← PS.out]; exact KP.out
    · exact KZ.out
    · exact KB.out
  case round =>
    clear KP KZ KB
    obtain ⟨j, hj, rfl, hq, hp, hz, hb⟩ := hrel
    by_cases hlt : j < 6
    · obtain ⟨y0, y1⟩ := pg_cell hp j hlt
      have f0 := hp.fz (4 + j * 2)
      have f1 := hp.fz (4 + j * 2 + 1)
      have pn := part_next s j hlt
      have hxs := cellAt_size s hs j hlt
      obtain ⟨b1, b2, bd⟩ := cell_facts s j hs hlt
      have hx : s.extract (8 + 36 * j) (44 + 36 * j) = cellAt s j := rfl
      have hcj : ∀ n, Oct.sval ((cellAt s j).extract 1 2) = n → n ≤ 34 → ∀ q, q < j + 1 → Oct.sval ((cellAt s q).extract 1 2) ≤ 34 := fun n e hn q hq' => by
        by_cases e2 : q = j
        · rw [e2, e]; exact hn
        · exact hq q (by omega)
      have hbad : ∀ n, Oct.sval ((cellAt s j).extract 1 2) = n → ¬ n ≤ 34 → ¬ Good s := fun n e hn => not_good_cell s hs j hlt fun h => hn (e ▸ h.1)
      generalize cellAt s j = x at pn hxs b1 b2 bd hx hcj hbad
      have e1 := sval_at x 0 (by omega)
      have e2 := sval_at x 1 (by omega)
      have hde := ex_ex x 2 36 0 (Oct.sval (x.extract 1 2))
      simp only [Nat.zero_add, Nat.reduceAdd, Nat.add_zero] at e1 e2 hde
      rw [e1] at pn b1
      rw [e2] at pn b2 hcj hbad hde
      have HCJ := Lib.hid (hcj _ rfl); have HBAD := Lib.hid (hbad _ rfl)
      have HP := Lib.hid hp; have HZ := Lib.hid hz; have HB := Lib.hid hb; have PN := Lib.hid pn; have HDE := Lib.hid hde
      clear hq hp hz hb pn bd e1 e2 hde hcj hbad
      by_cases h34 : x[1].toNat ≤ 34
      · have hd := HDE.out (by omega)
        have hcs := HCJ.out h34
        have pn := PN.out
        rw [hd] at pn
        have PN' := Lib.hid pn; have HCS := Lib.hid hcs
        clear hd hcs pn HBAD HDE PN HCJ
        go_wp2_with fail
        have en : ∃ n, x[1].toNat = n := ⟨_, rfl⟩
        obtain ⟨n, en⟩ := en
        have e0 : ∃ n, x[0].toNat = n := ⟨_, rfl⟩
        obtain ⟨n0, e0⟩ := e0
        have b0 : n0 < 256 := by rw [← e0]; exact x[0].toNat_lt
        have pn := PN'.out
        rw [en, e0] at pn
        have kp := (HP.out.set (4 + j * 2) (.int .i64 n0)).set (4 + j * 2 + 1) (.string (x.extract 2 (2 + n)))
        rw [pn] at kp
        have kz := (HZ.out.far (p := ⟨w4.heap.size, 4 + j * 2, none⟩) (Ne.symm HN.out) (.int .i64 n0)).far (p := ⟨w4.heap.size, 4 + j * 2 + 1, none⟩) (Ne.symm HN.out) (.string (x.extract 2 (2 + n)))
        have kb := (HB.out.setCell (p := ⟨w4.heap.size, 4 + j * 2, none⟩) HL.out (.int .i64 n0)).setCell (p := ⟨w4.heap.size, 4 + j * 2 + 1, none⟩) HL.out (.string (x.extract 2 (2 + n)))
        have KP := Lib.hid kp.drew; have KZ := Lib.hid kz.drew; have KB := Lib.hid kb.drew
        clear pn kp kz kb PN' HP HZ HB
        rw [en]
        rw [en] at h34
        have m6 : IntKind.i64.wrap (n0 : Int) = n0 := by simp [IntKind.wrap, IntKind.signed, IntKind.bits]; omega
        have m1 : (2 : Int) ≤ 2 + (n : Int) := by omega
        have m2 : 2 + (n : Int) ≤ 36 := by omega
        have m0 : (0 : Int) ≤ 2 + (n : Int) := by omega
        have m3 : IntKind.i64.wrap (2 + (n : Int)) = 2 + (n : Int) := by simp [IntKind.wrap, IntKind.signed, IntKind.bits]; omega
        have m4 : (2 + (n : Int)).toNat = 2 + n := by omega
        have m5 : wrap64 (2 + (n : Int)) = 2 + (n : Int) := by unfold wrap64; omega
        go_region_held3 (fun _ => True) (trivial) (fail)
        go_wp2
        go_roundw
        case rel => exact ⟨j + 1, by omega, by go_num, HCS.out, KP.out, KZ.out, KB.out⟩
        case measure => simp [intOf]; omega
      · have hd := dec_bad s (HBAD.out h34)
        have HDG := Lib.hid hd
        have h34' : (34 : Int) < (x[1].toNat : Int) := by omega
        clear hd HBAD HCJ HDE PN HP
        go_wp2_with (refine store_page rfl _ _ rfl w.heap.size Pg.zero Pg.zero rfl rfl HZ.out ?_)
        refine bodyPost_ret (rdec_results _ _ w.heap.size Pg.zero.cs (setRow_heap _ _ _ _ _ _ HZ.out) rfl rfl) rfl ?_
        rw [HDG.out.1, HDG.out.2]
        exact ⟨rfl, below_setRow HB.out (Nat.le_refl _) _⟩
    · obtain rfl : j = 6 := by omega
      have HP := Lib.hid hp; have HZ := Lib.hid hz; have HB := Lib.hid hb; have HQ := Lib.hid hq
      clear hp hz hb hq
      have cr := fun w => rencode_any (part s 6) w
      have sm : (part s 6).bytes = (Pg.of s).bytes := Pg.upTo_same (p := part s 6) (q := Pg.of s) ⟨rfl, rfl, rfl, rfl, fun i hi => by simp [part, hi, Pg.of]⟩ 6 (by omega)
      have ok1 : (part s 6).ok → (Pg.of s).ok := fun h => Pg.ok_same (p := part s 6) ⟨rfl, rfl, rfl, rfl, fun i hi => by simp [part, hi, Pg.of]⟩ h
      have CR := Lib.hid cr
      clear cr
      go_wp2_with (refine load_page rfl _ rfl w4.heap.size (part s 6) rfl HP.out ?_)
      refine (CR.out _).mono ?_
      rintro e w5 ⟨rfl, hb5⟩
      have P5 := Lib.hid (HP.out.kept hb5); have Z5 := Lib.hid (HZ.out.kept hb5); have B5 := Lib.hid (below_then HB.out hb5 HB.out.size)
      clear hb5 HP HZ HB CR
      by_cases hk : (part s 6).ok
      · rw [Pg.enc_ok hk, Pg.err_ok hk, sm]
        by_cases hbs : (Pg.of s).bytes = s
        · rw [hbs]
          have hg : Good s := ⟨hs, ok1 hk, hbs⟩
          have HDG := Lib.hid (of_good hg)
          clear hg hk hbs sm ok1
          go_wp2_with (first | (refine load_page rfl _ rfl w4.heap.size (part s 6) rfl P5.out ?_) | (refine store_page rfl _ _ rfl w.heap.size (part s 6) Pg.zero rfl rfl Z5.out ?_))
          refine bodyPost_ret (rdec_results _ _ w.heap.size (part s 6).cs (setRow_heap _ _ _ _ _ _ Z5.out) rfl rfl) rfl ?_
          rw [HDG.out.1, HDG.out.2]
          exact ⟨by rw [part_last]; rfl, below_setRow B5.out (Nat.le_refl _) _⟩
        · have HDG := Lib.hid (dec_bad s fun hg => hbs hg.2.2)
          have hne2 : ((Pg.of s).bytes.toList == s.toList) = false := str_ne hbs
          clear hk hbs sm ok1
          generalize (Pg.of s).bytes = b at *
          go_wp2_with (refine store_page rfl _ _ rfl w.heap.size Pg.zero Pg.zero rfl rfl Z5.out ?_)
          refine bodyPost_ret (rdec_results _ _ w.heap.size Pg.zero.cs (setRow_heap _ _ _ _ _ _ Z5.out) rfl rfl) rfl ?_
          rw [HDG.out.1, HDG.out.2]
          exact ⟨rfl, below_setRow B5.out (Nat.le_refl _) _⟩
      · rw [Pg.enc_no hk, Pg.err_no hk]
        have HDG := Lib.hid (dec_bad s fun hg => not_good_ok s hs hk hg)
        clear hk sm ok1
        go_wp2_with (refine store_page rfl _ _ rfl w.heap.size Pg.zero Pg.zero rfl rfl Z5.out ?_)
        refine bodyPost_ret (rdec_results _ _ w.heap.size Pg.zero.cs (setRow_heap _ _ _ _ _ _ Z5.out) rfl rfl) rfl ?_
        rw [HDG.out.1, HDG.out.2]
        exact ⟨rfl, below_setRow B5.out (Nat.le_refl _) _⟩
end Go.Proofs.Ytgafajbdmegfgaa
