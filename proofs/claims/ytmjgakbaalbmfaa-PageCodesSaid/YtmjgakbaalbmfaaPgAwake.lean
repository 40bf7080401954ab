/- The walk of the law's own awake. -/
import Derived.Test.YtmjgakbaalbmfaaPgEq
set_option linter.unusedVariables false
set_option linter.unusedSimpArgs false
namespace Go.Proofs.Ytmjgakbaalbmfaa
open Go.RowKit

def apage : Pg := ⟨3, 0, 258, 5, fun i => if i = 0 then ⟨1, ⟨#[97, 98]⟩⟩ else ⟨0, ⟨#[]⟩⟩⟩
theorem apage_ok : apage.ok := by
  refine ⟨by decide, fun i hi => ?_⟩
  rcases six hi with rfl | rfl | rfl | rfl | rfl | rfl <;> decide
def kpage : Pg := ⟨5, 0, 0, 0, fun i => ⟨0, ⟨#[]⟩⟩⟩
theorem kpage_no : ¬ kpage.ok := fun h => absurd h.1 (by decide)
theorem dec_bytes (p : Pg) (h : p.ok) : (Pg.dec p.bytes).v = p.v ∧ decErr p.bytes = 0 := by
  have hg := good_bytes p h
  refine ⟨?_, if_pos hg.1⟩
  rw [show Pg.dec p.bytes = Pg.of p.bytes from if_pos hg.1]
  unfold Pg.v
  rw [hg.2]

set_option maxRecDepth 100000 in
set_option maxHeartbeats 4000000 in
theorem awake_any (w : World) :
    Calls Try.prog 8 #[] w fun e w' => e = .returned (.bool true) ∧ Below w.heap.size w w' := by
  have ce := fun w => encode_any apage w
  have cd := fun w => decode_any apage.bytes w
  have ck := fun w => check_any kpage w
  rw [Pg.enc_ok apage_ok, Pg.err_ok apage_ok] at ce
  rw [(dec_bytes apage apage_ok).1, (dec_bytes apage apage_ok).2] at cd
  rw [Pg.err_no kpage_no] at ck
  have hz : (apage.bytes.size : Int) = 224 := by have := bytes_size apage apage_ok; omega
  have h12 : apage.bytes.extract 0 12 = ⟨#[3, 0, 2, 1, 5, 0, 0, 0, 1, 2, 97, 98]⟩ := by kernel_rfl
  have heq := fun w => page_eql apage apage w
  rw [pgB_self] at heq
  generalize apage.bytes = S at *
  have CE := Lib.hid ce; have CD := Lib.hid cd; have CK := Lib.hid ck
  clear ce cd ck
  go_enter Try.func8, Try.ntmps8
  go_wp2_with fail
  refine (CE.out _).mono ?_
  rintro e w2 ⟨rfl, hb2⟩
  have k2 : Bk w2 w.heap.size 26 apage.cs := (Bk.new w _ apage.cs).kept hb2
  have b2 : Below w.heap.size w w2 := below_then ((Below.refl _ _).alloc (Nat.le_refl _) (.cells apage.cs 26)) hb2 (by simp)
  have K2 := Lib.hid k2; have B2 := Lib.hid b2
  clear k2 b2 hb2
  go_wp2_with fail
  refine (CD.out _).mono ?_
  rintro e w3 ⟨rfl, hb3⟩
  have k1 := K2.out.kept hb3
  have k4 : Bk (w3.alloc (.cells apage.cs 26)) w3.heap.size 26 apage.cs := Bk.new _ _ _
  have k5 := k1.alloc (.cells apage.cs 26)
  have b3 := below_then B2.out hb3 B2.out.size
  have b4 := b3.alloc b3.size (.cells apage.cs 26)
  have K4 := Lib.hid k4; have K5 := Lib.hid k5; have B4 := Lib.hid b4
  clear k1 b3 hb3 CE CD K2 B2 k4 k5 b4
  unfold Pg.v
  unfold Pg.cs at heq
  go_wp2_with (refine store_page_new rfl _ _ rfl apage rfl rfl ?_; generalize (w3.alloc (.cells apage.cs 26)) = w4 at K4 K5 B4 ⊢; obtain ⟨a0, a1, a2, a3⟩ := pg_head K4.out; obtain ⟨a4, a5, a6, a7, a8, a9, a10, a11, a12, a13, a14, a15⟩ := pg_cells K4.out; obtain ⟨b0, b1, b2, b3⟩ := pg_head K5.out; obtain ⟨b4, b5, b6, b7, b8, b9, b10, b11, b12, b13, b14, b15⟩ := pg_cells K5.out)
  refine (CK.out _).mono ?_
  rintro e w5 ⟨rfl, hb5⟩
  have B5 := Lib.hid (below_then B4.out hb5 B4.out.size)
  clear hb5
  go_wp2
  go_ret
  exact ⟨rfl, B5.out⟩
end Go.Proofs.Ytmjgakbaalbmfaa
