/- The walk of PageReads. -/
import Derived.Test.YtmjgakbaalbmfaaPgRDec
set_option linter.unusedVariables false
set_option linter.unusedSimpArgs false
namespace Go.Proofs.Ytmjgakbaalbmfaa
open Go.RowKit

theorem rdecode_any (s : ByteArray) (w : World) :
    Calls Try.prog 15 #[.string s] w fun e w' => e = .returned (.tuple #[(Pg.dec s).v, .int .i64 (decErr s)]) ∧ Below w.heap.size w w' := by
  by_cases h : s.size = 224
  · exact rdecode_long s w h
  · have hd := dec_bad s fun hg => h hg.1
    rw [hd.1, hd.2]
    exact rdecode_short s w h
set_option maxRecDepth 100000 in
set_option maxHeartbeats 4000000 in
theorem walk_PageReads (s : ByteArray) (w : World) (hs : s.size ≤ maxLen) :
    Calls Try.prog 4 #[.string s] w fun e w' => e = .returned (.bool true) ∧ Below w.heap.size w w' := by
  have CA := Lib.hid awake_any
  have cd := fun w => decode_any s w
  have cr := fun w => rdecode_any s w
  generalize Pg.dec s = D at *
  generalize decErr s = E at *
  have hq := fun w => page_eql D D w
  rw [pgB_self] at hq
  have CD := Lib.hid cd; have CR := Lib.hid cr
  clear cd cr hs
  go_enter Try.func4, Try.ntmps4
  go_wp2_with fail
  refine (CA.out _).mono ?_
  rintro e w2 ⟨rfl, hb2⟩
  have B2 := Lib.hid hb2
  clear hb2 CA
  go_wp2_with fail
  refine (CD.out _).mono ?_
  rintro e w3 ⟨rfl, hb3⟩
  have b3 := below_then B2.out hb3 B2.out.size
  have k4 : Bk (w3.alloc (.cells D.cs 26)) w3.heap.size 26 D.cs := Bk.new _ _ _
  have b4 := b3.alloc b3.size (.cells D.cs 26)
  have K4 := Lib.hid k4; have B4 := Lib.hid b4
  clear b3 k4 b4 hb3 B2 CD
  unfold Pg.v at CR ⊢
  go_wp2_with (refine store_page_new rfl _ _ rfl D rfl rfl ?_; generalize (w3.alloc (.cells D.cs 26)) = w4 at K4 B4 ⊢)
  refine (CR.out _).mono ?_
  rintro e w5 ⟨rfl, hb5⟩
  have k6 := (K4.out.kept hb5).alloc (.cells D.cs 26)
  have n6 : Bk (w5.alloc (.cells D.cs 26)) w5.heap.size 26 D.cs := Bk.new _ _ _
  have b5 := below_then B4.out hb5 B4.out.size
  have b6 := b5.alloc b5.size (.cells D.cs 26)
  have K6 := Lib.hid k6; have N6 := Lib.hid n6; have B6 := Lib.hid b6
  clear k6 n6 b5 b6 hb5 K4 B4 CR
  go_wp2_with (first
    | (refine store_page_new rfl _ _ rfl D rfl rfl ?_; generalize (w5.alloc (.cells D.cs 26)) = w6 at K6 N6 B6 ⊢)
    | (refine load_page rfl _ rfl w3.heap.size D rfl K6.out ?_)
    | (refine load_page rfl _ rfl w5.heap.size D rfl N6.out ?_))
  go_ret
  exact ⟨rfl, B6.out⟩
end Go.Proofs.Ytmjgakbaalbmfaa
