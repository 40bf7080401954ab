/- The walk of OctetReads. -/
import Derived.Test.YtfhdafpcppdjnaaOctLaws1
import Derived.Test.YtfhdafpcppdjnaaOctRR
import Derived.Test.YtfhdafpcppdjnaaRead
import Derived.Deep.QuietTactic
import Derived.BigQuiet
set_option linter.unusedVariables false
set_option linter.unusedSimpArgs false
namespace Go.Proofs.Ytfhdafpcppdjnaa
open Go.RowKit Go.ChangeShapes Go.WideShapes Go.ChangeAt Go.Deep

/-- The asks: a kind and a number each. -/
def IsAsks (w : World) (v : Value) (q : Slq) : Prop := IsSl w v 2 q ∧ ∀ i, i < q.len → ∃ k n : Int, q.f i 0 = .int .i64 k ∧ q.f i 1 = .int .i64 n

theorem read_asks {H : Type} {enc : TypeId × Value → H} {w : World} {base : Nat} {held : Bool} {r : Reach} {b0 : Nat} {d : DataW H} {p : List MemPlace} {v : Value}
    (hv : Value.okWide Try.prog w r b0 36 v) (h : DataW.Trod enc Try.prog w base (fun _ => true) held 36 v d p) : ∃ q, IsAsks w v q ∧ SzOf d q.cap := by
  obtain ⟨q, hq, hz, hf⟩ := read_structs Try.underlying36 Try.underlying42 (by kernel_rfl) (by kernel_rfl) (by decide) hv h
  refine ⟨q, ⟨hq, fun i hi => ?_⟩, hz⟩
  obtain ⟨n0, y0, h0⟩ := hf i hi 0 _ rfl
  obtain ⟨n1, y1, h1⟩ := hf i hi 1 _ rfl
  obtain ⟨k, hk, _⟩ := DataW.trod_int Try.underlying3 h0
  obtain ⟨n, hn, _⟩ := DataW.trod_int Try.underlying3 h1
  exact ⟨k, n, by simpa using hk, by simpa using hn⟩

/-- One ask, of a reader's state. -/
def askSt (k n : Int) (st : Oct.Rs) : Oct.Rs := if k = 0 then (Oct.rbytes st n).2 else if k = 1 then (Oct.rnum st n).2 else if k = 2 then (Oct.rtext st).2 else st
theorem askSt_size (k n : Int) (st : Oct.Rs) : ((askSt k n st).getD ⟨#[]⟩).size ≤ (st.getD ⟨#[]⟩).size := by
  unfold askSt
  split
  · exact rbytes_size st n
  · split
    · exact rnum_size st n
    · split
      · unfold Oct.rtext
        exact Nat.le_trans (rbytes_size _ _) (rnum_size st 1)
      · exact Nat.le_refl _

theorem rtext_size (st : Oct.Rs) : ((Oct.rtext st).2.getD ⟨#[]⟩).size ≤ (st.getD ⟨#[]⟩).size := Nat.le_trans (rbytes_size _ _) (rnum_size st 1)
theorem rdst_drewN {w : World} {g : Nat} {st : Oct.Rs} (h : RdSt w g st) (n : Nat) : RdSt (w.drewN n) g st := h

set_option maxRecDepth 100000 in
set_option maxHeartbeats 2000000 in
theorem walk_OctetReads (s : ByteArray) (v : Value) (q : Slq) (w : World) (hs : s.size ≤ maxLen) (hq : IsAsks w v q) :
    Calls Try.prog 4 #[.string s, v] w fun e w' => e = .returned (.bool true) ∧ Below w.heap.size w w' := by
  obtain ⟨hq, hkn⟩ := hq
  obtain ⟨A, len, cap, f⟩ := q
  obtain ⟨rfl, hle, hmax, hat⟩ := hq
  simp only at hle hmax hat hkn
  have hlen : len ≤ 9223372036854775807 := by unfold maxLen at hmax; omega
  have HS := Lib.hid hs; have HK := Lib.hid hkn; have HAT := Lib.hid hat; clear hs hkn hat hle hmax
  have hbad : ∀ (w : World), Calls Try.prog 23 #[.pointer none] w fun e w' => e = .returned (.bool true) ∧ w = w' := rd_bad_nil
  go_enter Try.func4, Try.ntmps4
  go_wp2_with fail
  refine (awake_any _).mono ?_
  rintro e w0 ⟨rfl, hb0⟩
  go_wp2_with fail
  refine (rd_read s _).mono ?_
  rintro e w1 ⟨rfl, ha1, hb1, hl1⟩
  have hB1 : Below w.heap.size w w1 := hb0.trans (hb1.mono hb0.size)
  have hg : w.heap.size ≤ w0.heap.size := hb0.size
  generalize w0.heap.size = g at ha1 hg hl1 ⊢
  have HA1 := Lib.hid ha1; clear ha1 hb0 hb1
  go_wp2
  have hM1 : Bk (w1.alloc (.cells #[.string s, .bool false] 40)) w1.heap.size 40 #[.string s, .bool false] := Bk.new _ _ _
  have HA2 : Hid (RdSt (w1.alloc (.cells #[.string s, .bool false] 40)) g (some s)) := Lib.hid (Bk.alloc (t := 62) HA1.out _)
  have hB2 : Below w.heap.size w (w1.alloc (.cells #[.string s, .bool false] 40)) := hB1.alloc hB1.size _
  have hgm : w.heap.size ≤ w1.heap.size := hB1.size
  generalize w1.alloc (.cells #[.string s, .bool false] 40) = w2 at hM1 HA2 hB2 ⊢
  generalize w1.heap.size = m at hM1 hl1 hgm ⊢
  have hne : g ≠ m := by omega
  clear hB1 HA1 w1
  go_loopw [27] (fun i wr => ∃ (k : Nat) (st : Oct.Rs), k ≤ len ∧ i = .int .i64 k ∧ RdSt wr g st ∧ Bk wr m 40 #[.string (st.getD ⟨#[]⟩), .bool st.isNone] ∧ (st.getD ⟨#[]⟩).size ≤ s.size ∧ Below w.heap.size w wr) (fun i _ => len - (intOf i).toNat)
  case atStart => exact ⟨0, some s, Nat.zero_le _, rfl, HA2.out, hM1, Nat.le_refl _, hB2⟩
  case round =>
    obtain ⟨k, st, hk, rfl, hrd, hbk, hsz, hbel⟩ := hrel
    have HRD := Lib.hid hrd; have HBK := Lib.hid hbk; clear hrd hbk hM1 HA2
    by_cases hlt : k < len
    · obtain ⟨b, off, rfl, hbw, hcells⟩ := HAT.out (by omega)
      obtain ⟨kk, nn, e0, e1⟩ := HK.out k hlt
      have q0 := hbel.cell (p := ⟨b, off + (k * 2 + 0), none⟩) hbw
      have q1 := hbel.cell (p := ⟨b, off + (k * 2 + 1), none⟩) hbw
      rw [hcells k 0 hlt (by omega), e0] at q0
      rw [hcells k 1 hlt (by omega), e1] at q1
      simp only [Nat.add_zero, ← Nat.add_assoc] at q0 q1
      clear hcells e0 e1
      have hpg : w.heap.size ≤ wr.heap.size := hbel.size
      have hgl : g < wr.heap.size := RdAt.lt HRD.out
      have hml : m < wr.heap.size := HBK.out.lt
      have hs' : (st.getD ⟨#[]⟩).size ≤ maxLen := Nat.le_trans hsz HS.out
      have R1 : ∀ o, RdSt (wr.alloc o) g st := fun o => Bk.alloc (t := 62) HRD.out o
      have M1 : ∀ o, Bk (wr.alloc o) m 40 #[.string (st.getD ⟨#[]⟩), .bool st.isNone] := fun o => HBK.out.alloc o
      have B1 : ∀ o, Below w.heap.size w (wr.alloc o) := fun o => hbel.alloc hbel.size o
      have HR1 := Lib.hid R1; have HM1 := Lib.hid M1; have HB1 := Lib.hid B1; clear R1 M1 B1
      by_cases h0 : kk = 0
      · subst h0
        have c1 := fun w h => rd_bytes g nn st w h hs'
        have c2 := fun w => rr_bytes st nn w hs'
        have hsz2 := rbytes_size st nn
        generalize Oct.rbytes st nn = pp at c1 c2 hsz2
        obtain ⟨x, st2⟩ := pp
        simp only [rsv] at c1 c2 hsz2
        have C1 := Lib.hid c1; have C2 := Lib.hid c2; clear c1 c2
        go_wp2_with fail
        refine (C1.out _ (HR1.out _)).mono ?_
        rintro e w3 ⟨rfl, hr3, hg3⟩
        have P3 : Bk w3 wr.heap.size 42 #[.int .i64 0, .int .i64 nn] := (Bk.new wr _ _).grown hg3 (by simp; omega)
        have M3 := (HM1.out (.cells #[.int .i64 0, .int .i64 nn] 42)).grown hg3 (by simp; omega)
        have B3 := (HB1.out (.cells #[.int .i64 0, .int .i64 nn] 42)).grown hg3 (by simp; omega) (by simp; omega)
        have p1 := P3.cell 1; have m0 := M3.cell 0; have m1 := M3.cell 1
        simp only [List.getElem?_toArray, List.getElem?_cons_zero, List.getElem?_cons_succ] at p1 m0 m1
        have HR3 := Lib.hid hr3; have HM3 := Lib.hid M3; have HB3 := Lib.hid B3; clear hr3 M3 B3 P3 hg3
        go_wp2_with fail
        refine (C2.out _).mono ?_
        rintro e w4 ⟨rfl, hb4⟩
        have R4 : RdSt w4 g st2 := Bk.kept (t := 62) HR3.out hb4
        have M4 := HM3.out.kept hb4
        have B4 := below_then HB3.out hb4 HB3.out.size
        have f0 := M4.fz 0; have f1 := M4.fz 1; have k0 := M4.cell 0; have k1 := M4.cell 1
        simp only [List.getElem?_toArray, List.getElem?_cons_zero, List.getElem?_cons_succ] at k0 k1
        have hm4 : m < w4.heap.size := M4.lt
        have hg4 : g < w4.heap.size := RdAt.lt R4
        have hw4 : w.heap.size ≤ w4.heap.size := B4.size
        have R5 : ∀ u v o, RdSt (((w4.setCell ⟨m, 0, none⟩ u).setCell ⟨m, 1, none⟩ v).alloc o) g st2 := fun u v o => (((Bk.far (t := 62) R4 (p := ⟨m, 0, none⟩) hne u).far (p := ⟨m, 1, none⟩) hne v)).alloc o
        have M5 : ∀ o, Bk (((w4.setCell ⟨m, 0, none⟩ (.string (st2.getD ⟨#[]⟩))).setCell ⟨m, 1, none⟩ (.bool st2.isNone)).alloc o) m 40 #[.string (st2.getD ⟨#[]⟩), .bool st2.isNone] := fun o => ((M4.set 0 _).set 1 _).alloc o
        have B5 : ∀ u v o, Below w.heap.size w (((w4.setCell ⟨m, 0, none⟩ u).setCell ⟨m, 1, none⟩ v).alloc o) := fun u v o => ((B4.setCell (p := ⟨m, 0, none⟩) hgm u).setCell (p := ⟨m, 1, none⟩) hgm v).alloc (by simp; exact hw4) o
        have HR5 := Lib.hid R5; have HM5 := Lib.hid M5; have HB5 := Lib.hid B5; clear R5 M5 B5 R4 M4 B4 hb4 HR3 HM3 HB3 p1 m0 m1
        have hszf : (st2.getD ⟨#[]⟩).size ≤ s.size := Nat.le_trans hsz2 hsz
        go_wp2_with fail
        go_quiet (first | (go_at_call 23; exact Calls.quiet_of_same ((rd_isbad g st2 _ (rdst_drewN (HR5.out _ _ _) _)).mono fun _ _ ⟨a, b⟩ => ⟨a, b.symm⟩)) | (go_at_call 24; exact Calls.quiet_of_same ((rd_left g st2 _ (rdst_drewN (HR5.out _ _ _) _)).mono fun _ _ ⟨a, b⟩ => ⟨a, b.symm⟩)))
        go_wp2
        go_roundw
        case rel => exact ⟨k + 1, st2, by omega, by go_num, HR5.out _ _ _, HM5.out _, hszf, below_drewN (HB5.out _ _ _) _⟩
        case measure => simp [intOf]; omega
      by_cases h1 : kk = 1
      · subst h1
        have c1 := fun w h => rd_num g nn st w h hs'
        have c2 := fun w => rr_num st nn w hs'
        have hsz2 := rnum_size st nn
        generalize Oct.rnum st nn = pp at c1 c2 hsz2
        obtain ⟨x, st2⟩ := pp
        simp only [rsv] at c1 c2 hsz2
        have C1 := Lib.hid c1; have C2 := Lib.hid c2; clear c1 c2
        go_wp2_with fail
        refine (C1.out _ (HR1.out _)).mono ?_
        rintro e w3 ⟨rfl, hr3, hg3⟩
        have P3 : Bk w3 wr.heap.size 42 #[.int .i64 1, .int .i64 nn] := (Bk.new wr _ _).grown hg3 (by simp; omega)
        have M3 := (HM1.out (.cells #[.int .i64 1, .int .i64 nn] 42)).grown hg3 (by simp; omega)
        have B3 := (HB1.out (.cells #[.int .i64 1, .int .i64 nn] 42)).grown hg3 (by simp; omega) (by simp; omega)
        have p1 := P3.cell 1; have m0 := M3.cell 0; have m1 := M3.cell 1
        simp only [List.getElem?_toArray, List.getElem?_cons_zero, List.getElem?_cons_succ] at p1 m0 m1
        have HR3 := Lib.hid hr3; have HM3 := Lib.hid M3; have HB3 := Lib.hid B3; clear hr3 M3 B3 P3 hg3
        go_wp2_with fail
        refine (C2.out _).mono ?_
        rintro e w4 ⟨rfl, hb4⟩
        have R4 : RdSt w4 g st2 := Bk.kept (t := 62) HR3.out hb4
        have M4 := HM3.out.kept hb4
        have B4 := below_then HB3.out hb4 HB3.out.size
        have f0 := M4.fz 0; have f1 := M4.fz 1; have k0 := M4.cell 0; have k1 := M4.cell 1
        simp only [List.getElem?_toArray, List.getElem?_cons_zero, List.getElem?_cons_succ] at k0 k1
        have hm4 : m < w4.heap.size := M4.lt
        have hg4 : g < w4.heap.size := RdAt.lt R4
        have hw4 : w.heap.size ≤ w4.heap.size := B4.size
        have R5 : ∀ u v o, RdSt (((w4.setCell ⟨m, 0, none⟩ u).setCell ⟨m, 1, none⟩ v).alloc o) g st2 := fun u v o => (((Bk.far (t := 62) R4 (p := ⟨m, 0, none⟩) hne u).far (p := ⟨m, 1, none⟩) hne v)).alloc o
        have M5 : ∀ o, Bk (((w4.setCell ⟨m, 0, none⟩ (.string (st2.getD ⟨#[]⟩))).setCell ⟨m, 1, none⟩ (.bool st2.isNone)).alloc o) m 40 #[.string (st2.getD ⟨#[]⟩), .bool st2.isNone] := fun o => ((M4.set 0 _).set 1 _).alloc o
        have B5 : ∀ u v o, Below w.heap.size w (((w4.setCell ⟨m, 0, none⟩ u).setCell ⟨m, 1, none⟩ v).alloc o) := fun u v o => ((B4.setCell (p := ⟨m, 0, none⟩) hgm u).setCell (p := ⟨m, 1, none⟩) hgm v).alloc (by simp; exact hw4) o
        have HR5 := Lib.hid R5; have HM5 := Lib.hid M5; have HB5 := Lib.hid B5; clear R5 M5 B5 R4 M4 B4 hb4 HR3 HM3 HB3 p1 m0 m1
        have hszf : (st2.getD ⟨#[]⟩).size ≤ s.size := Nat.le_trans hsz2 hsz
        go_wp2_with fail
        go_quiet (first | (go_at_call 23; exact Calls.quiet_of_same ((rd_isbad g st2 _ (rdst_drewN (HR5.out _ _ _) _)).mono fun _ _ ⟨a, b⟩ => ⟨a, b.symm⟩)) | (go_at_call 24; exact Calls.quiet_of_same ((rd_left g st2 _ (rdst_drewN (HR5.out _ _ _) _)).mono fun _ _ ⟨a, b⟩ => ⟨a, b.symm⟩)))
        go_wp2
        go_roundw
        case rel => exact ⟨k + 1, st2, by omega, by go_num, HR5.out _ _ _, HM5.out _, hszf, below_drewN (HB5.out _ _ _) _⟩
        case measure => simp [intOf]; omega
      by_cases h2 : kk = 2
      · subst h2
        have c1 := fun w h => rd_text g st w h hs'
        have c2 := fun w => rr_text st w hs'
        have hsz2 := rtext_size st
        generalize Oct.rtext st = pp at c1 c2 hsz2
        obtain ⟨x, st2⟩ := pp
        simp only [rsv] at c1 c2 hsz2
        have C1 := Lib.hid c1; have C2 := Lib.hid c2; clear c1 c2
        go_wp2_with fail
        refine (C1.out _ (HR1.out _)).mono ?_
        rintro e w3 ⟨rfl, hr3, hg3⟩
        have P3 : Bk w3 wr.heap.size 42 #[.int .i64 2, .int .i64 nn] := (Bk.new wr _ _).grown hg3 (by simp; omega)
        have M3 := (HM1.out (.cells #[.int .i64 2, .int .i64 nn] 42)).grown hg3 (by simp; omega)
        have B3 := (HB1.out (.cells #[.int .i64 2, .int .i64 nn] 42)).grown hg3 (by simp; omega) (by simp; omega)
        have p1 := P3.cell 1; have m0 := M3.cell 0; have m1 := M3.cell 1
        simp only [List.getElem?_toArray, List.getElem?_cons_zero, List.getElem?_cons_succ] at p1 m0 m1
        have HR3 := Lib.hid hr3; have HM3 := Lib.hid M3; have HB3 := Lib.hid B3; clear hr3 M3 B3 P3 hg3
        go_wp2_with fail
        refine (C2.out _).mono ?_
        rintro e w4 ⟨rfl, hb4⟩
        have R4 : RdSt w4 g st2 := Bk.kept (t := 62) HR3.out hb4
        have M4 := HM3.out.kept hb4
        have B4 := below_then HB3.out hb4 HB3.out.size
        have f0 := M4.fz 0; have f1 := M4.fz 1; have k0 := M4.cell 0; have k1 := M4.cell 1
        simp only [List.getElem?_toArray, List.getElem?_cons_zero, List.getElem?_cons_succ] at k0 k1
        have hm4 : m < w4.heap.size := M4.lt
        have hg4 : g < w4.heap.size := RdAt.lt R4
        have hw4 : w.heap.size ≤ w4.heap.size := B4.size
        have R5 : ∀ u v o, RdSt (((w4.setCell ⟨m, 0, none⟩ u).setCell ⟨m, 1, none⟩ v).alloc o) g st2 := fun u v o => (((Bk.far (t := 62) R4 (p := ⟨m, 0, none⟩) hne u).far (p := ⟨m, 1, none⟩) hne v)).alloc o
        have M5 : ∀ o, Bk (((w4.setCell ⟨m, 0, none⟩ (.string (st2.getD ⟨#[]⟩))).setCell ⟨m, 1, none⟩ (.bool st2.isNone)).alloc o) m 40 #[.string (st2.getD ⟨#[]⟩), .bool st2.isNone] := fun o => ((M4.set 0 _).set 1 _).alloc o
        have B5 : ∀ u v o, Below w.heap.size w (((w4.setCell ⟨m, 0, none⟩ u).setCell ⟨m, 1, none⟩ v).alloc o) := fun u v o => ((B4.setCell (p := ⟨m, 0, none⟩) hgm u).setCell (p := ⟨m, 1, none⟩) hgm v).alloc (by simp; exact hw4) o
        have HR5 := Lib.hid R5; have HM5 := Lib.hid M5; have HB5 := Lib.hid B5; clear R5 M5 B5 R4 M4 B4 hb4 HR3 HM3 HB3 p1 m0 m1
        have hszf : (st2.getD ⟨#[]⟩).size ≤ s.size := Nat.le_trans hsz2 hsz
        go_wp2_with fail
        go_quiet (first | (go_at_call 23; exact Calls.quiet_of_same ((rd_isbad g st2 _ (rdst_drewN (HR5.out _ _ _) _)).mono fun _ _ ⟨a, b⟩ => ⟨a, b.symm⟩)) | (go_at_call 24; exact Calls.quiet_of_same ((rd_left g st2 _ (rdst_drewN (HR5.out _ _ _) _)).mono fun _ _ ⟨a, b⟩ => ⟨a, b.symm⟩)))
        go_wp2
        go_roundw
        case rel => exact ⟨k + 1, st2, by omega, by go_num, HR5.out _ _ _, HM5.out _, hszf, below_drewN (HB5.out _ _ _) _⟩
        case measure => simp [intOf]; omega
      · have g0 : (kk == 0) = false := by simp [h0]
        have g1 : (kk == 1) = false := by simp [h1]
        have g2 : (kk == 2) = false := by simp [h2]
        clear h0 h1 h2
        have o0 := (HBK.out.alloc (.cells #[.int .i64 kk, .int .i64 nn] 42)).cell 0
        have o1 := (HBK.out.alloc (.cells #[.int .i64 kk, .int .i64 nn] 42)).cell 1
        simp only [List.getElem?_toArray, List.getElem?_cons_zero, List.getElem?_cons_succ] at o0 o1
        go_wp2_with fail
        go_quiet (first | (go_at_call 23; exact Calls.quiet_of_same ((rd_isbad g st _ (rdst_drewN (HR1.out _) _)).mono fun _ _ ⟨a, b⟩ => ⟨a, b.symm⟩)) | (go_at_call 24; exact Calls.quiet_of_same ((rd_left g st _ (rdst_drewN (HR1.out _) _)).mono fun _ _ ⟨a, b⟩ => ⟨a, b.symm⟩)))
        go_wp2
        go_roundw
        case rel => exact ⟨k + 1, st, by omega, by go_num, HR1.out _, HM1.out _, hsz, below_drewN (HB1.out _) _⟩
        case measure => simp [intOf]; omega
    · obtain rfl : k = len := by omega
      go_wp2_with fail
      refine (rd_bad_nil _).mono ?_
      rintro e w' ⟨rfl, rfl⟩
      go_wp2_with fail
      refine (rd_left_nil _).mono ?_
      rintro e w' ⟨rfl, rfl⟩
      go_wp2_with fail
      refine (rd_text_nil _).mono ?_
      rintro e w' ⟨rfl, rfl⟩
      go_wp2_with fail
      refine (rd_num_nil _ _).mono ?_
      rintro e w' ⟨rfl, rfl⟩
      go_wp2_with fail
      refine (rd_bytes_nil _ _).mono ?_
      rintro e w' ⟨rfl, rfl⟩
      go_wp2
      go_ret
      exact ⟨rfl, hbel⟩

end Go.Proofs.Ytfhdafpcppdjnaa
