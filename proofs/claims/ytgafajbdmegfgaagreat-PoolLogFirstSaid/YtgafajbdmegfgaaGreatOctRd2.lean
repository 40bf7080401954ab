/- The walks of octet.Reader's methods, and what a reader does, as a plain function. -/
import Derived.Test.YtgafajbdmegfgaaGreatOctRd
set_option linter.unusedVariables false
set_option linter.unusedSimpArgs false
namespace Go.Proofs.YtgafajbdmegfgaaGreat
open Go.RowKit

namespace Oct
/-- A reader: what is left, or none: it is bad. -/
abbrev Rs := Option ByteArray
def rbytes (st : Rs) (n : Int) : ByteArray × Rs :=
  match st with
  | none => (⟨#[]⟩, none)
  | some s => if n < 0 ∨ (s.size : Int) < n then (⟨#[]⟩, none) else (s.extract 0 n.toNat, some (s.extract n.toNat s.size))
def nval (b : ByteArray) : Nat := if 1 ≤ b.size ∧ b.size ≤ 8 then sval b else 0
def rnum (st : Rs) (width : Int) : Nat × Rs :=
  match st with
  | none => (0, none)
  | some s => if width < 1 ∨ 8 < width then (0, none) else (nval (rbytes (some s) width).1, (rbytes (some s) width).2)
def rtext (st : Rs) : ByteArray × Rs := rbytes (rnum st 1).2 (rnum st 1).1
theorem nval_lt (b : ByteArray) : nval b < 18446744073709551616 := by
  unfold nval
  split
  · have := sval_lt b
    have := pow8_le b.size (by omega)
    omega
  · omega
end Oct

def RdSt (w : World) (g : Nat) (st : Oct.Rs) : Prop := RdAt w g (st.getD ⟨#[]⟩) st.isNone

set_option maxHeartbeats 400000 in
theorem rd_bytes_bad (g : Nat) (n : Int) (rest : ByteArray) (w : World) (h : RdAt w g rest true) :
    Calls Tryz.prog 62 #[.pointer (some ⟨g, 0, none⟩), .int .i64 n] w fun e w' => e = .returned (.string ⟨#[]⟩) ∧ w = w' := by
  have h1 := h.c1
  go_enter Tryz.func62, Tryz.ntmps62
  go_wp2_with fail
  refine (rd_bad g true _ h1).mono ?_
  rintro e w' ⟨rfl, rfl⟩
  go_wp2
  go_ret
  exact ⟨rfl, rfl⟩
set_option maxHeartbeats 400000 in
theorem rd_bytes_over (g : Nat) (n : Int) (rest : ByteArray) (w : World) (h : RdAt w g rest false) (hs : rest.size ≤ maxLen) (hn : n < 0 ∨ (rest.size : Int) < n) :
    Calls Tryz.prog 62 #[.pointer (some ⟨g, 0, none⟩), .int .i64 n] w fun e w' => e = .returned (.string ⟨#[]⟩) ∧ RdAt w' g ⟨#[]⟩ true ∧ w.grownBy w' (some g) := by
  unfold maxLen at hs
  have h1 := h.c1
  have h0 := h.c0
  have H := Lib.hid h; clear h
  rcases hn with hn | hn
  · go_enter Tryz.func62, Tryz.ntmps62
    go_wp2_with fail
    refine (rd_bad g false _ h1).mono ?_
    rintro e w' ⟨rfl, rfl⟩
    go_wp2_with fail
    refine (rd_spoil g rest false _ H.out).mono ?_
    rintro e w1 ⟨rfl, ha, hg⟩
    have HA := Lib.hid ha; have HG := Lib.hid hg; clear ha hg
    go_wp2
    go_ret
    exact ⟨rfl, HA.out, HG.out⟩
  · have hn' : ¬ n < 0 := by omega
    go_enter Tryz.func62, Tryz.ntmps62
    go_wp2_with fail
    refine (rd_bad g false _ h1).mono ?_
    rintro e w' ⟨rfl, rfl⟩
    go_wp2_with fail
    refine (rd_spoil g rest false _ H.out).mono ?_
    rintro e w1 ⟨rfl, ha, hg⟩
    have HA := Lib.hid ha; have HG := Lib.hid hg; clear ha hg
    go_wp2
    go_ret
    exact ⟨rfl, HA.out, HG.out⟩
set_option maxHeartbeats 400000 in
theorem rd_bytes_ok (g : Nat) (n : Nat) (rest : ByteArray) (w : World) (h : RdAt w g rest false) (hs : rest.size ≤ maxLen) (hn : n ≤ rest.size) :
    Calls Tryz.prog 62 #[.pointer (some ⟨g, 0, none⟩), .int .i64 n] w fun e w' => e = .returned (.string (rest.extract 0 n)) ∧ RdAt w' g (rest.extract n rest.size) false ∧ w.grownBy w' (some g) := by
  unfold maxLen at hs
  have h1 := h.c1
  have h0 := h.c0
  have f0 := h.fz 0
  have hn' : ¬ ((rest.size : Int) < (n : Int)) := by omega
  have fin : RdAt (w.setCell ⟨g, 0, none⟩ (.string (rest.extract n rest.size))) g (rest.extract n rest.size) false ∧ w.grownBy (w.setCell ⟨g, 0, none⟩ (.string (rest.extract n rest.size))) (some g) :=
    ⟨h.set0 _, only_set (World.grownBy.refl _ _) _ _⟩
  have FIN := Lib.hid fin; clear fin h
  go_enter Tryz.func62, Tryz.ntmps62
  go_wp2_with fail
  refine (rd_bad g false _ h1).mono ?_
  rintro e w' ⟨rfl, rfl⟩
  go_wp2
  go_ret
  exact ⟨rfl, FIN.out⟩

theorem rd_bytes (g : Nat) (n : Int) (st : Oct.Rs) (w : World) (h : RdSt w g st) (hs : (st.getD ⟨#[]⟩).size ≤ maxLen) :
    Calls Tryz.prog 62 #[.pointer (some ⟨g, 0, none⟩), .int .i64 n] w fun e w' => e = .returned (.string (Oct.rbytes st n).1) ∧ RdSt w' g (Oct.rbytes st n).2 ∧ w.grownBy w' (some g) := by
  cases st with
  | none => exact (rd_bytes_bad g n _ w h).mono fun e w' ⟨he, hw⟩ => ⟨he, hw ▸ h, hw ▸ World.grownBy.refl _ _⟩
  | some s =>
    by_cases hb : n < 0 ∨ (s.size : Int) < n
    · rw [show Oct.rbytes (some s) n = (⟨#[]⟩, none) by simp [Oct.rbytes, hb]]
      exact rd_bytes_over g n s w h hs hb
    · rw [show Oct.rbytes (some s) n = (s.extract 0 n.toNat, some (s.extract n.toNat s.size)) by simp only [Oct.rbytes]; rw [if_neg hb]]
      obtain ⟨k, rfl⟩ := Int.eq_ofNat_of_zero_le (show 0 ≤ n by omega)
      exact rd_bytes_ok g k s w h hs (by omega)

theorem rbytes_size (st : Oct.Rs) (n : Int) : ((Oct.rbytes st n).2.getD ⟨#[]⟩).size ≤ (st.getD ⟨#[]⟩).size := by
  cases st with
  | none => simp [Oct.rbytes]
  | some s =>
    simp only [Oct.rbytes]
    split
    · exact Nat.zero_le _
    · simp

set_option maxHeartbeats 400000 in
theorem rd_num (g : Nat) (n : Int) (st : Oct.Rs) (w : World) (h : RdSt w g st) (hs : (st.getD ⟨#[]⟩).size ≤ maxLen) :
    Calls Tryz.prog 61 #[.pointer (some ⟨g, 0, none⟩), .int .i64 n] w fun e w' => e = .returned (.int .u64 (Oct.rnum st n).1) ∧ RdSt w' g (Oct.rnum st n).2 ∧ w.grownBy w' (some g) := by
  cases st with
  | none =>
    have h1 := RdAt.c1 h
    have H := Lib.hid h; clear h
    show Calls _ _ _ _ fun e w' => e = .returned (.int .u64 0) ∧ RdSt w' g none ∧ w.grownBy w' (some g)
    go_enter Tryz.func61, Tryz.ntmps61
    go_wp2_with fail
    refine (rd_bad g true _ h1).mono ?_
    rintro e w' ⟨rfl, rfl⟩
    go_wp2
    go_ret
    exact ⟨rfl, H.out, World.grownBy.refl _ _⟩
  | some s =>
    have h1 := RdAt.c1 h
    by_cases hb : n < 1 ∨ 8 < n
    · rw [show Oct.rnum (some s) n = (0, none) by simp only [Oct.rnum]; rw [if_pos hb]]
      have H := Lib.hid h; clear h
      rcases hb with hb | hb
      · go_enter Tryz.func61, Tryz.ntmps61
        go_wp2_with fail
        refine (rd_bad g false _ h1).mono ?_
        rintro e w' ⟨rfl, rfl⟩
        go_wp2_with fail
        refine (rd_spoil g s false _ H.out).mono ?_
        rintro e w1 ⟨rfl, ha, hg⟩
        have HA := Lib.hid ha; have HG := Lib.hid hg; clear ha hg
        go_wp2
        go_ret
        exact ⟨rfl, HA.out, HG.out⟩
      · have hb' : ¬ n < 1 := by omega
        go_enter Tryz.func61, Tryz.ntmps61
        go_wp2_with fail
        refine (rd_bad g false _ h1).mono ?_
        rintro e w' ⟨rfl, rfl⟩
        go_wp2_with fail
        refine (rd_spoil g s false _ H.out).mono ?_
        rintro e w1 ⟨rfl, ha, hg⟩
        have HA := Lib.hid ha; have HG := Lib.hid hg; clear ha hg
        go_wp2
        go_ret
        exact ⟨rfl, HA.out, HG.out⟩
    · rw [show Oct.rnum (some s) n = (Oct.nval (Oct.rbytes (some s) n).1, (Oct.rbytes (some s) n).2) by simp only [Oct.rnum]; rw [if_neg hb]]
      have hlo : ¬ n < 1 := by omega
      have hhi : ¬ 8 < n := by omega
      have c := rd_bytes g n (some s) w h hs
      clear h hs hb
      generalize Oct.rbytes (some s) n = p at c ⊢
      obtain ⟨b, st'⟩ := p
      simp only at c ⊢
      have C := Lib.hid c; clear c
      by_cases hv : 1 ≤ b.size ∧ b.size ≤ 8
      · have e1 : Oct.nval b = Oct.sval b := by unfold Oct.nval; rw [if_pos hv]
        rw [e1]
        clear e1
        go_enter Tryz.func61, Tryz.ntmps61
        go_wp2_with fail
        refine (rd_bad g false _ h1).mono ?_
        rintro e w' ⟨rfl, rfl⟩
        go_wp2_with fail
        refine C.out.mono ?_
        rintro e w1 ⟨rfl, ha, hg⟩
        have HA := Lib.hid ha; have HG := Lib.hid hg; clear ha hg
        go_wp2_with fail
        refine (val_good b _ hv.1 hv.2).mono ?_
        rintro e w2 ⟨rfl, hb2⟩
        have HB := Lib.hid hb2; clear hb2
        go_wp2
        go_ret
        exact ⟨rfl, RdAt.below HA.out HB.out (RdAt.lt HA.out), only_trans HG.out (only_below HB.out _)⟩
      · have e1 : Oct.nval b = 0 := by unfold Oct.nval; rw [if_neg hv]
        rw [e1]
        clear e1
        go_enter Tryz.func61, Tryz.ntmps61
        go_wp2_with fail
        refine (rd_bad g false _ h1).mono ?_
        rintro e w' ⟨rfl, rfl⟩
        go_wp2_with fail
        refine C.out.mono ?_
        rintro e w1 ⟨rfl, ha, hg⟩
        have HA := Lib.hid ha; have HG := Lib.hid hg; clear ha hg
        go_wp2_with fail
        refine (val_bad b _ (by omega)).mono ?_
        rintro e w2 ⟨rfl, hb2⟩
        have HB := Lib.hid hb2; clear hb2
        go_wp2
        go_ret
        exact ⟨rfl, RdAt.below HA.out HB.out (RdAt.lt HA.out), only_trans HG.out (only_below HB.out _)⟩

theorem rnum_size (st : Oct.Rs) (n : Int) : ((Oct.rnum st n).2.getD ⟨#[]⟩).size ≤ (st.getD ⟨#[]⟩).size := by
  cases st with
  | none => simp [Oct.rnum]
  | some s =>
    simp only [Oct.rnum]
    split
    · exact Nat.zero_le _
    · exact rbytes_size _ _
theorem rnum_lt (st : Oct.Rs) (n : Int) : (Oct.rnum st n).1 < 18446744073709551616 := by
  cases st with
  | none => simp [Oct.rnum]
  | some s =>
    simp only [Oct.rnum]
    split
    · simp
    · exact Oct.nval_lt _

theorem sval1 (s : ByteArray) (h : s.size = 1) : Oct.sval s < 256 := by
  have := Oct.sval_lt s
  rw [h] at this
  simpa using this
theorem rnum1_lt (st : Oct.Rs) : (Oct.rnum st 1).1 < 256 := by
  cases st with
  | none => simp [Oct.rnum]
  | some s =>
    have e : Oct.rnum (some s) 1 = (Oct.nval (Oct.rbytes (some s) 1).1, (Oct.rbytes (some s) 1).2) := by simp only [Oct.rnum]; rw [if_neg (by omega)]
    rw [e]
    show Oct.nval (Oct.rbytes (some s) 1).1 < 256
    simp only [Oct.rbytes]
    split
    · decide
    · rename_i h
      unfold Oct.nval
      split
      · refine sval1 _ ?_
        have : 1 ≤ s.size := by omega
        simp; omega
      · omega

set_option maxHeartbeats 400000 in
theorem rd_bytes_nil (n : Int) (w : World) :
    Calls Tryz.prog 62 #[.pointer none, .int .i64 n] w fun e w' => e = .returned (.string ⟨#[]⟩) ∧ w = w' := by
  go_enter Tryz.func62, Tryz.ntmps62
  go_wp2_with fail
  refine (rd_bad_nil _).mono ?_
  rintro e w' ⟨rfl, rfl⟩
  go_wp2
  go_ret
  exact ⟨rfl, rfl⟩
set_option maxHeartbeats 400000 in
theorem rd_num_nil (n : Int) (w : World) :
    Calls Tryz.prog 61 #[.pointer none, .int .i64 n] w fun e w' => e = .returned (.int .u64 0) ∧ w = w' := by
  go_enter Tryz.func61, Tryz.ntmps61
  go_wp2_with fail
  refine (rd_bad_nil _).mono ?_
  rintro e w' ⟨rfl, rfl⟩
  go_wp2
  go_ret
  exact ⟨rfl, rfl⟩
theorem rd_isbad (g : Nat) (st : Oct.Rs) (w : World) (h : RdSt w g st) :
    Calls Tryz.prog 63 #[.pointer (some ⟨g, 0, none⟩)] w fun e w' => e = .returned (.bool st.isNone) ∧ w = w' := rd_bad g _ w (RdAt.c1 h)
set_option maxHeartbeats 400000 in
theorem rd_read (s : ByteArray) (w : World) :
    Calls Tryz.prog 60 #[.string s] w fun e w' => e = .returned (.pointer (some ⟨w.heap.size, 0, none⟩)) ∧ RdSt w' w.heap.size (some s) ∧ Below w.heap.size w w' ∧ w.heap.size < w'.heap.size := by
  have fin : RdSt (w.alloc (.cells #[.string s, .bool false] 141)) w.heap.size (some s) ∧ Below w.heap.size w (w.alloc (.cells #[.string s, .bool false] 141)) :=
    ⟨heap_alloc_new w _, (Below.refl _ _).alloc (Nat.le_refl _) _⟩
  have FIN := Lib.hid fin; clear fin
  go_enter Tryz.func60, Tryz.ntmps60
  go_wp2
  go_ret
  exact ⟨rfl, FIN.out.1, FIN.out.2, by simp⟩

end Go.Proofs.YtgafajbdmegfgaaGreat
