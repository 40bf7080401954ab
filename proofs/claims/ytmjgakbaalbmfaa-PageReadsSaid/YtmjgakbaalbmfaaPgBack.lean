/- The walk of PageBack. -/
import Derived.Test.YtmjgakbaalbmfaaPgRooms2
set_option linter.unusedVariables false
set_option linter.unusedSimpArgs false
namespace Go.Proofs.Ytmjgakbaalbmfaa
open Go.RowKit

theorem of_good {s : ByteArray} (h : Good s) : Pg.dec s = Pg.of s ∧ decErr s = 0 := ⟨if_pos h, if_pos h⟩
set_option maxRecDepth 100000 in
set_option maxHeartbeats 4000000 in
/-- The second half: bytes that are read are written as they were. -/
theorem back_core (p : Pg) (s : ByteArray) (w : World) :
    Calls Try.prog 5 #[p.v, .string s] w fun e w' => e = .returned (.bool true) ∧ Below w.heap.size w w' := by
  have CA := Lib.hid awake_any
  have CE := Lib.hid (fun w => encode_any p w)
  have CS := Lib.hid (fun w => decode_any s w)
  unfold Pg.v
  go_enter Try.func5, Try.ntmps5
  go_wp2_with fail
  refine (CA.out _).mono ?_
  rintro e w2 ⟨rfl, hb2⟩
  have k2 := (Bk.new w 26 p.cs).kept hb2
  have b2 := below_then ((Below.refl _ _).alloc (Nat.le_refl _) (.cells p.cs 26)) hb2 (by simp)
  have K2 := Lib.hid k2; have B2 := Lib.hid b2
  clear k2 b2 hb2 CA
  go_wp2_with (refine load_page rfl _ rfl w.heap.size p rfl K2.out ?_)
  refine (CE.out _).mono ?_
  rintro e w3 ⟨rfl, hb3⟩
  have K3 := Lib.hid (K2.out.kept hb3); have B3 := Lib.hid (below_then B2.out hb3 B2.out.size)
  clear hb3 K2 B2 CE
  by_cases hp : p.ok
  · rw [Pg.enc_ok hp, Pg.err_ok hp]
    have cd := fun w => decode_any p.bytes w
    rw [(dec_bytes p hp).1, (dec_bytes p hp).2] at cd
    have CD := Lib.hid cd
    have hz : (p.bytes.size : Int) = 224 := by have := bytes_size p hp; omega
    have hq := fun w => page_neq p p w
    rw [pgB_self] at hq
    clear cd
    generalize p.bytes = t at *
    go_wp2_with fail
    refine (CD.out _).mono ?_
    rintro e w4 ⟨rfl, hb4⟩
    have k1 := (K3.out.kept hb4).alloc (.cells p.cs 26)
    have b4 := below_then B3.out hb4 B3.out.size
    have k4 : Bk (w4.alloc (.cells p.cs 26)) w4.heap.size 26 p.cs := Bk.new _ _ _
    have B4 := Lib.hid (b4.alloc b4.size (.cells p.cs 26)); have K1 := Lib.hid k1; have K4 := Lib.hid k4
    clear hb4 k1 b4 k4 CD K3 B3
    unfold Pg.v
    have hq' := hq
    unfold Pg.cs at hq
    go_wp2_with (refine store_page_new rfl _ _ rfl p rfl rfl ?_; generalize (w4.alloc (.cells p.cs 26)) = w5 at K1 K4 B4 ⊢; obtain ⟨a0, a1, a2, a3⟩ := pg_head K4.out; obtain ⟨a4, a5, a6, a7, a8, a9, a10, a11, a12, a13, a14, a15⟩ := pg_cells K4.out; obtain ⟨b0, b1, b2, b3⟩ := pg_head K1.out; obtain ⟨b4, b5, b6, b7, b8, b9, b10, b11, b12, b13, b14, b15⟩ := pg_cells K1.out)
    clear a0 a1 a2 a3 a4 a5 a6 a7 a8 a9 a10 a11 a12 a13 a14 a15 b0 b1 b2 b3 b4 b5 b6 b7 b8 b9 b10 b11 b12 b13 b14 b15 hq hq' K1 K4
    refine (CS.out _).mono ?_
    rintro e w6 ⟨rfl, hb6⟩
    have b6 := below_then B4.out hb6 B4.out.size
    have B6 := Lib.hid (fun o => b6.alloc b6.size o)
    clear hb6 b6 CS B4
    by_cases hg : Good s
    · rw [(of_good hg).1, (of_good hg).2]
      have ce := fun w => encode_any (Pg.of s) w
      rw [Pg.enc_ok hg.2.1, Pg.err_ok hg.2.1, hg.2.2] at ce
      have ck := fun w => check_any (Pg.of s) w
      rw [Pg.err_ok hg.2.1] at ck
      have CE2 := Lib.hid ce; have CK2 := Lib.hid ck
      clear ce ck hg
      generalize Pg.of s = P at *
      unfold Pg.v
      have k7 : Bk (w6.alloc (.cells P.cs 26)) w6.heap.size 26 P.cs := Bk.new _ _ _
      have K7 := Lib.hid k7; have B7 := Lib.hid (B6.out (.cells P.cs 26))
      clear k7
      go_wp2_with (first | (refine store_page_new rfl _ _ rfl P rfl rfl ?_; generalize (w6.alloc (.cells P.cs 26)) = w7 at K7 B7 ⊢) | (refine load_page rfl _ rfl w6.heap.size P rfl K7.out ?_))
      refine (CE2.out _).mono ?_
      rintro e w8 ⟨rfl, hb8⟩
      have K8 := Lib.hid (K7.out.kept hb8); have B8 := Lib.hid (below_then B7.out hb8 B7.out.size)
      clear hb8 K7 B7 CE2
      obtain ⟨a0, a1, a2, a3⟩ := pg_head K8.out
      obtain ⟨a4, a5, a6, a7, a8, a9, a10, a11, a12, a13, a14, a15⟩ := pg_cells K8.out
      go_wp2_with fail
      refine (CK2.out _).mono ?_
      rintro e w9 ⟨rfl, hb9⟩
      have B9 := Lib.hid (below_then B8.out hb9 B8.out.size)
      clear hb9 a0 a1 a2 a3 a4 a5 a6 a7 a8 a9 a10 a11 a12 a13 a14 a15 K8 B8 CK2
      go_wp2
      go_ret
      exact ⟨rfl, B9.out⟩
    · rw [(dec_bad s hg).1, (dec_bad s hg).2]
      have hq0 : ∀ w, (binOp .eql 26 (.agg Pg.zero.cs) (.agg #[.int .i64 0, .int .i64 0, .int .i64 0, .int .i64 0, .int .i64 0, .string ⟨#[]⟩, .int .i64 0, .string ⟨#[]⟩, .int .i64 0, .string ⟨#[]⟩, .int .i64 0, .string ⟨#[]⟩, .int .i64 0, .string ⟨#[]⟩, .int .i64 0, .string ⟨#[]⟩])).run Try.prog w = .ok (.bool true) w := fun w => (page_eql Pg.zero Pg.zero w).trans (by rw [pgB_self])
      unfold Pg.v
      have k7 : Bk (w6.alloc (.cells Pg.zero.cs 26)) w6.heap.size 26 Pg.zero.cs := Bk.new _ _ _
      have K7 := Lib.hid k7; have B7 := Lib.hid (B6.out (.cells Pg.zero.cs 26))
      clear k7
      go_wp2_with (first | (refine store_page_new rfl _ _ rfl Pg.zero rfl rfl ?_; generalize (w6.alloc (.cells Pg.zero.cs 26)) = w7 at K7 B7 ⊢) | (refine load_page rfl _ rfl w6.heap.size Pg.zero rfl K7.out ?_))
      go_ret
      exact ⟨rfl, B7.out⟩
  · rw [Pg.enc_no hp, Pg.err_no hp]
    go_wp2_with fail
    refine (CS.out _).mono ?_
    rintro e w6 ⟨rfl, hb6⟩
    have b6 := below_then B3.out hb6 B3.out.size
    have B6 := Lib.hid (fun o => b6.alloc b6.size o)
    clear hb6 b6 CS B3
    by_cases hg : Good s
    · rw [(of_good hg).1, (of_good hg).2]
      have ce := fun w => encode_any (Pg.of s) w
      rw [Pg.enc_ok hg.2.1, Pg.err_ok hg.2.1, hg.2.2] at ce
      have ck := fun w => check_any (Pg.of s) w
      rw [Pg.err_ok hg.2.1] at ck
      have CE2 := Lib.hid ce; have CK2 := Lib.hid ck
      clear ce ck hg
      generalize Pg.of s = P at *
      unfold Pg.v
      have k7 : Bk (w6.alloc (.cells P.cs 26)) w6.heap.size 26 P.cs := Bk.new _ _ _
      have K7 := Lib.hid k7; have B7 := Lib.hid (B6.out (.cells P.cs 26))
      clear k7
      go_wp2_with (first | (refine store_page_new rfl _ _ rfl P rfl rfl ?_; generalize (w6.alloc (.cells P.cs 26)) = w7 at K7 B7 ⊢) | (refine load_page rfl _ rfl w6.heap.size P rfl K7.out ?_))
      refine (CE2.out _).mono ?_
      rintro e w8 ⟨rfl, hb8⟩
      have K8 := Lib.hid (K7.out.kept hb8); have B8 := Lib.hid (below_then B7.out hb8 B7.out.size)
      clear hb8 K7 B7 CE2
      obtain ⟨a0, a1, a2, a3⟩ := pg_head K8.out
      obtain ⟨a4, a5, a6, a7, a8, a9, a10, a11, a12, a13, a14, a15⟩ := pg_cells K8.out
      go_wp2_with fail
      refine (CK2.out _).mono ?_
      rintro e w9 ⟨rfl, hb9⟩
      have B9 := Lib.hid (below_then B8.out hb9 B8.out.size)
      clear hb9 a0 a1 a2 a3 a4 a5 a6 a7 a8 a9 a10 a11 a12 a13 a14 a15 K8 B8 CK2
      go_wp2
      go_ret
      exact ⟨rfl, B9.out⟩
    · rw [(dec_bad s hg).1, (dec_bad s hg).2]
      have hq0 : ∀ w, (binOp .eql 26 (.agg Pg.zero.cs) (.agg #[.int .i64 0, .int .i64 0, .int .i64 0, .int .i64 0, .int .i64 0, .string ⟨#[]⟩, .int .i64 0, .string ⟨#[]⟩, .int .i64 0, .string ⟨#[]⟩, .int .i64 0, .string ⟨#[]⟩, .int .i64 0, .string ⟨#[]⟩, .int .i64 0, .string ⟨#[]⟩])).run Try.prog w = .ok (.bool true) w := fun w => (page_eql Pg.zero Pg.zero w).trans (by rw [pgB_self])
      unfold Pg.v
      have k7 : Bk (w6.alloc (.cells Pg.zero.cs 26)) w6.heap.size 26 Pg.zero.cs := Bk.new _ _ _
      have K7 := Lib.hid k7; have B7 := Lib.hid (B6.out (.cells Pg.zero.cs 26))
      clear k7
      go_wp2_with (first | (refine store_page_new rfl _ _ rfl Pg.zero rfl rfl ?_; generalize (w6.alloc (.cells Pg.zero.cs 26)) = w7 at K7 B7 ⊢) | (refine load_page rfl _ rfl w6.heap.size Pg.zero rfl K7.out ?_))
      go_ret
      exact ⟨rfl, B7.out⟩
theorem walk_PageBack (v : Value) (p : Pg) (s : ByteArray) (w : World) (h : IsPage v p) (hs : s.size ≤ maxLen) :
    Calls Try.prog 5 #[v, .string s] w fun e w' => e = .returned (.bool true) ∧ Below w.heap.size w w' := by
  rw [h.val]
  exact back_core p s w
end Go.Proofs.Ytmjgakbaalbmfaa
