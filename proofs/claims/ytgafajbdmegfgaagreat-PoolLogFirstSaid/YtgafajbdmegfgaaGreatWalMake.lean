/- The walks of isRing and Create. -/
import Derived.Test.YtgafajbdmegfgaaGreatWalBox
set_option linter.unusedVariables false
set_option linter.unusedSimpArgs false
namespace Go.Proofs.YtgafajbdmegfgaaGreat
open Go.RowKit

theorem isRing_good {w : World} {B : Nat} {I : Ids} {S : Dsk} (h : Dk w B I S) (first n : Nat) (h1 : 128 ≤ n) (h2 : n ≤ 4096) (h3 : first + n ≤ S.firm.length) :
    Calls Tryz.prog 20 #[I.ptr, .int .i64 first, .int .i64 n] w fun e w' => e = .returned (.bool true) ∧ w' = w := by
  have C := Lib.hid (size_any h)
  have hm := h.ok.most
  have k1 : (128 : Int) ≤ (n : Int) := by omega
  have k2 : (n : Int) ≤ 4096 := by omega
  have k3 : (0 : Int) ≤ (first : Int) := by omega
  have k4 : (first : Int) ≤ (S.firm.length : Int) - (n : Int) := by omega
  unfold Ids.ptr at *
  generalize S.firm.length = N at *
  clear h h1 h2 h3
  go_enter Tryz.func20, Tryz.ntmps20
  go_wp2_with fail
  refine C.out.mono ?_
  rintro e w1 ⟨rfl, hw⟩
  subst w1
  clear C
  go_wp2
  go_ret
  exact ⟨rfl, rfl⟩
set_option maxHeartbeats 1000000 in
set_option maxRecDepth 100000 in
theorem create_good {w : World} {B : Nat} {I : Ids} (N first n : Nat) (h : Dk w B I (.start (blanks N))) (h1 : 128 ≤ n) (h2 : n ≤ 4096) (h3 : first + n ≤ N) (hB : B ≤ w.heap.size) :
    Calls Tryz.prog 6 #[I.ptr, .int .i64 first, .int .i64 n] w fun e w' => ∃ g p', e = .returned (.tuple #[.pointer (some ⟨g, 0, none⟩), .int .i64 0]) ∧ Wl w' B ⟨g, I.with p', .slice none 0 0, .slice none 0 0⟩ (Lg.new first n) (.start (blanks N)) ∧ Below B w w' := by
  have hl : (Dsk.start (blanks N)).firm.length = N := by simp [Dsk.start, blanks]
  have hN : N ≤ 16384 := by have := h.ok.most; rw [hl] at this; exact this
  have CR := Lib.hid (isRing_good h first n h1 h2 (by rw [hl]; exact h3))
  have H := Lib.hid h; have HB := Lib.hid hB; have H1 := Lib.hid h1; have H2 := Lib.hid h2; have H3 := Lib.hid h3; have HN := Lib.hid hN
  have OK := Lib.hid (Lg.new_ok first n h1 h2 (by omega))
  have CB := Lib.hid wblank_any
  have hn8 : n ≤ 9223372036854775807 := by omega
  unfold Ids.ptr at *
  clear h hl hB h1 h2 h3 hN
  go_enter Tryz.func6, Tryz.ntmps6
  go_wp2_with fail
  refine CR.out.mono ?_
  rintro e w1 ⟨rfl, hw⟩
  subst w1
  clear CR
  go_wp2_with fail
  go_loopw [17] (fun i wr => ∃ (k : Nat) (p' : Value), k ≤ n ∧ i = .int .i64 k ∧ Dk wr B (I.with p') (mkS N first k) ∧ Below B w wr) (fun i _ => n - (intOf i).toNat)
  case atStart => exact ⟨0, I.p, Nat.zero_le _, rfl, H.out, Below.refl _ _⟩
  case round =>
    obtain ⟨k, p', hk, rfl, hd, hb⟩ := hrel
    have D := Lib.hid hd; have BB := Lib.hid hb
    clear hd hb
    by_cases hlt : k < n
    · have HLT := Lib.hid hlt
      have fk : first + k < N := by have := H3.out; omega
      have WR := Lib.hid (mkS_write N first k fk)
      have hlt' : (k : Int) < (n : Int) := by omega
      have hs1 : first + k ≤ 16384 := by have := HN.out; omega
      go_wp2_with fail
      refine (CB.out _).mono ?_
      rintro e w2 ⟨rfl, hb⟩
      have D2 := Lib.hid (D.out.kept hb); have B2 := Lib.hid (below_then BB.out hb (Nat.le_trans HB.out BB.out.size))
      have B2' := Lib.hid (Nat.le_trans HB.out B2.out.size)
      have cw := write_any D2.out ((first + k : Nat) : Int) (Fr.zs 64) B2'.out (by show ((List.range k).map _).length ≤ _; simp; omega)
      rw [WR.out] at cw
      have CW := Lib.hid cw
      clear cw hb
      unfold Ids.ptr Ids.with at CW
      rw [Int.natCast_add] at CW
      go_wp2_with fail
      refine CW.out.mono ?_
      rintro e w3 ⟨rfl, p2, hd, ho⟩
      have D3 := Lib.hid (show Dk w3 B (I.with p2) (mkS N first (k + 1)) from hd)
      have B3 := Lib.hid (B2.out.trans (ho.below B2'.out (fun k hk => (D2.out.foot_lt hk).1)))
      clear hd ho CW WR
      go_wp2_with fail
      go_roundw
      case rel => exact ⟨k + 1, p2, by have := HLT.out; omega, by go_num, D3.out, B3.out⟩
      case measure => have := HLT.out; simp [intOf]; omega
    · obtain rfl : k = n := by omega
      have hB' := Nat.le_trans HB.out BB.out.size
      have cw := barrier_any D.out
      rw [mkS_barrier] at cw
      have CW := Lib.hid cw
      have HB' := Lib.hid hB'
      clear cw hB'
      unfold Ids.ptr Ids.with at CW
      go_wp2_with fail
      refine CW.out.mono ?_
      rintro e w3 ⟨rfl, p2, hd, ho⟩
      have D3 := Lib.hid (show Dk w3 B (I.with p2) (.start (blanks N)) from hd)
      have B3 := Lib.hid (BB.out.trans (ho.below HB'.out (fun k hk => (D.out.foot_lt hk).1)))
      clear hd ho CW
      go_wp2_with fail
      go_ret2
      refine ⟨w3.heap.size, p2, rfl, ⟨Bk.new w3 _ _, Nat.le_trans HB.out B3.out.size, D3.out.kept ((Below.refl _ _).alloc (Nat.le_refl _) _), World.ownsRow_nil _ _ _ _, World.ownsRow_nil _ _ _ _, OK.out⟩, B3.out.alloc (Nat.le_trans HB.out B3.out.size) _⟩
end Go.Proofs.YtgafajbdmegfgaaGreat
