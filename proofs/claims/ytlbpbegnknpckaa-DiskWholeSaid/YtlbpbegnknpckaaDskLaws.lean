/- The walks of awake and DiskNone. -/
import Derived.Test.YtlbpbegnknpckaaDskWalk5
set_option linter.unusedVariables false
set_option linter.unusedSimpArgs false
namespace Go.Proofs.Ytlbpbegnknpckaa
open Go.RowKit

theorem write_done {S : Dsk} {k : Nat} {d : ByteArray} (h1 : S.down = false) (h2 : k < S.firm.length) (h3 : d.size = 64) (h4 : S.fuel ≠ 0) : S.write (k : Int) d = (S.wrote k d, 0) := by
  unfold Dsk.write
  rw [if_neg (by rw [h1]; simp), if_pos ⟨by omega, by omega, h3⟩, if_neg h4, Int.toNat_natCast]
theorem keepTo_none (l : List ByteArray) (ps : List (Nat × ByteArray)) (kb : Nat → Bool) : ∀ k, keepTo l ps 0 kb k = l
  | 0 => rfl
  | k + 1 => by simp only [keepTo]; rw [if_neg (by omega)]; exact keepTo_none l ps kb k
theorem I_with (I : Ids) (p : Value) : (I.with p).ptr = I.ptr := rfl

theorem awake_read (z a : ByteArray) : (((Dsk.start (List.replicate 2 z)).wrote 1 a).read 1) = (a, 0) := by
  simp [Dsk.read, Dsk.wrote, Dsk.burnt, Dsk.start, List.replicate]
theorem awake_crash (z a : ByteArray) (kb : Nat → Bool) : (((Dsk.start (List.replicate 2 z)).wrote 1 a).crash 0 kb).read 1 = (z, 0) := by
  simp [Dsk.crash, keepTo_none, Dsk.read, Dsk.wrote, Dsk.burnt, Dsk.start, List.replicate]
theorem down_read (S : Dsk) (i : Int) : ({ S with down := true } : Dsk).read i = (⟨#[]⟩, 20) := by simp [Dsk.read]

set_option maxHeartbeats 2000000 in
theorem awake_any (w : World) :
    Calls Try.prog 10 #[] w fun e w' => e = .returned (.bool true) ∧ Below w.heap.size w w' := by
  have z64 : (Fr.zs 64).size = 64 := Fr.zs_size 64
  have cn := new_good 2 w (by omega) (by omega)
  have cb := blank_any
  unfold blanks at cn
  generalize Fr.zs 64 = z at *
  have CN := Lib.hid cn; have CB := Lib.hid cb; clear cn cb
  have ha : (z.extract 1 64 ++ ⟨#[97]⟩ : ByteArray).size = 64 := by
    rw [ByteArray.size_append, ByteArray.size_extract, z64]; rfl
  have HA := Lib.hid ha; clear ha
  go_enter Try.func10, Try.ntmps10
  go_wp2_with fail
  refine CN.out.mono ?_
  rintro e w1 ⟨I, rfl, hd1, hb1⟩
  have cs := size_any hd1
  rw [show (Dsk.start (List.replicate 2 z)).firm.length = 2 from by simp [Dsk.start]] at cs
  have CS := Lib.hid cs; have HD1 := Lib.hid hd1; have HB1 := Lib.hid hb1
  clear cs hd1 hb1
  unfold Ids.ptr at CS ⊢
  go_wp2_with fail
  refine CS.out.mono ?_
  rintro e w2 ⟨rfl, hw⟩
  subst w2
  go_wp2_with fail
  refine (CB.out _).mono ?_
  rintro e w2 ⟨rfl, hb2⟩
  have hd2 := HD1.out.kept hb2
  have F2 := Lib.hid (fun k hk => (hd2.foot_lt (k := k) hk).1)
  have hb2' := below_then HB1.out hb2 HB1.out.size
  have cw := write_any hd2 ((1 : Nat) : Int) (z.extract 1 64 ++ ⟨#[97]⟩) hb2'.size (by simp [Dsk.start])
  rw [write_done rfl (by simp [Dsk.start]) HA.out (by simp [Dsk.start])] at cw
  rw [show ((1 : Nat) : Int) = 1 from rfl] at cw
  have CW := Lib.hid cw; have HB2 := Lib.hid hb2'
  clear cw hd2 hb2 hb2'
  unfold Ids.ptr at CW
  go_wp2_with fail
  refine CW.out.mono ?_
  rintro e w3 ⟨rfl, p3, hd3, ho3⟩
  have hb3 : Below w.heap.size w w3 := HB2.out.trans (ho3.below HB2.out.size F2.out)
  have cr := read_any hd3 1
  rw [awake_read] at cr
  have CR := Lib.hid cr; have HD3 := Lib.hid hd3; have HB3 := Lib.hid hb3
  clear cr hd3 ho3 hb3
  unfold Ids.ptr Ids.with at CR
  simp only at CR
  go_wp2_with fail
  refine CR.out.mono ?_
  rintro e w4 ⟨rfl, hw⟩
  subst w4
  have cc := crash_any HD3.out (.slice none 0 0) 0 (fun _ => false) (Kp.nil _ _ _)
  have F3 := Lib.hid (fun k hk => (HD3.out.foot_lt (k := k) hk).1)
  unfold Ids.ptr Ids.with at cc
  have CC := Lib.hid cc; clear cc
  go_wp2_with fail
  refine CC.out.mono ?_
  rintro e w4 ⟨J, rfl, hd4, hj4, ho4, hjp⟩
  have hb4 : Below w.heap.size w w4 := HB3.out.trans (ho4.below HB3.out.size F3.out)
  have r1 := read_any hj4 1
  have r2 := read_any hd4 1
  rw [awake_crash] at r1
  rw [down_read] at r2
  unfold Ids.ptr at r1 r2
  have R1 := Lib.hid r1; have R2 := Lib.hid r2; have HB4 := Lib.hid hb4
  clear r1 r2 hd4 hj4 ho4 hb4
  go_wp2_with fail
  refine R1.out.mono ?_
  rintro e w5 ⟨rfl, hw⟩
  subst w5
  go_wp2_with fail
  refine R2.out.mono ?_
  rintro e w5 ⟨rfl, hw⟩
  subst w5
  go_wp2_with fail
  refine (CB.out _).mono ?_
  rintro e w5 ⟨rfl, hb5⟩
  have HB5 := Lib.hid (below_then HB4.out hb5 HB4.out.size); clear hb5
  go_wp2
  go_ret
  exact ⟨rfl, HB5.out⟩

theorem walk_DiskNone (sector : Int) (v : Value) (q : Slq) (w : World) (h0 : -9223372036854775808 ≤ sector) (h1 : sector ≤ 9223372036854775807) (hq : IsSl w v 1 q ∧ ∀ i, i < q.len → ∃ b, q.f i 0 = .bool b) :
    Calls Try.prog 5 #[.int .i64 sector, v] w fun e w' => e = .returned (.bool true) ∧ Below w.heap.size w w' := by
  have ha := awake_any w
  have hv := hq.1.val
  subst hv
  clear hq
  have HA := Lib.hid ha; clear ha
  go_enter Try.func5, Try.ntmps5
  go_wp2_with fail
  refine HA.out.mono ?_
  rintro e w1 ⟨rfl, hb1⟩
  have HB := Lib.hid hb1; clear hb1
  go_wp2_with fail
  refine (read_none sector _).mono ?_
  rintro e w2 ⟨rfl, hw⟩
  subst w2
  go_wp2_with fail
  refine (fuel_none sector _).mono ?_
  rintro e w2 ⟨rfl, hw⟩
  subst w2
  go_wp2_with fail
  refine (write_none sector _ _).mono ?_
  rintro e w2 ⟨rfl, hw⟩
  subst w2
  go_wp2_with fail
  refine (barrier_none _).mono ?_
  rintro e w2 ⟨rfl, hw⟩
  subst w2
  go_wp2_with fail
  refine (size_none _).mono ?_
  rintro e w2 ⟨rfl, hw⟩
  subst w2
  go_wp2_with fail
  refine (pending_none _).mono ?_
  rintro e w2 ⟨rfl, hw⟩
  subst w2
  go_wp2_with fail
  refine (crash_none _ _).mono ?_
  rintro e w2 ⟨rfl, hw⟩
  subst w2
  go_wp2
  go_ret
  exact ⟨rfl, HB.out⟩
end Go.Proofs.Ytlbpbegnknpckaa
