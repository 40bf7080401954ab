/- Slices of a row of bytes of one's own: its end as a string, its head; the plain parse of a stream. -/
import Derived.Test.YtgafajbdmegfgaaGreatWalLoad
set_option linter.unusedVariables false
set_option linter.unusedSimpArgs false
namespace Go.Proofs.YtgafajbdmegfgaaGreat
open Go.RowKit

theorem sz1 (w : World) : (Go.sizeOf 5).run Tryz.prog w = .ok 1 w := by kernel_rfl
theorem sliceElem : Tryz.prog.underlying 63 = some (.slice (Tryz.prog.elem 63)) ∧ Tryz.prog.elem 63 = 5 := by
  have he : Tryz.prog.elem 63 = 5 := by simp [Program.elem, Tryz.underlying63]
  exact ⟨by rw [he]; exact Tryz.underlying63, he⟩
set_option maxRecDepth 100000 in
theorem slice_low {w : World} {B : Nat} {v : Value} {s : ByteArray} (h : w.ownsRow B 5 1 v s.size (Lib.strCells s)) (l : Nat) (hl : l ≤ s.size) :
    ∃ a c, (∀ W, (Instr.slice 63 v (some (.int .i64 l)) none none).run Tryz.prog W = .ok (.slice a (s.size - l) c) W) ∧ ∀ q, (convert 63 9 (.slice a (s.size - l) c)).run Tryz.prog (w.drewN q) = .ok (.string (s.extract l s.size)) (w.drewN q) := by
  rcases h.2 with ⟨rfl, h0⟩ | ⟨g, cap, cur, rfl, hg, hh, hn, hm, r⟩
  · have hl0 : l = 0 := by omega
    subst hl0
    have hs : s = ⟨#[]⟩ := by
      obtain ⟨d⟩ := s
      have : d.size = 0 := h0
      have := Array.eq_empty_of_size_eq_zero this
      rw [this]
    subst hs
    refine ⟨none, 0, fun W => ?_, fun q => ?_⟩
    · have := run_slice_l (P := Tryz.prog) (w := W) 63 none 0 0 sliceElem.1 .i64 0 (by omega) (by omega)
      rw [sliceElem.2, sz1] at this
      exact this
    · exact run_convert_bytes_nil (P := Tryz.prog) (w.drewN q) 63 5 Tryz.underlying63 Tryz.underlying5 0 0 9 Tryz.underlying9
  · have hby : Lib.Bytes w g 0 s := fun i hi => by
      have := h.cells (g := g) rfl i (.int .u8 (s[i].toNat : Int)) (by
        unfold Lib.strCells
        rw [List.getElem?_map, Array.getElem?_toList]
        have : s.data[i]? = some s[i] := Array.getElem?_eq_getElem hi
        rw [this]; rfl)
      rw [Addr.add_lit] at this
      exact this
    by_cases hc : cap = l
    · have hn0 : s.size = l := by omega
      refine ⟨some ⟨g, 0, none⟩, cap - l, fun W => ?_, fun q => ?_⟩
      · have := run_slice_l (P := Tryz.prog) (w := W) 63 (some ⟨g, 0, none⟩) s.size cap sliceElem.1 .i64 l (by omega) (by omega)
        rw [sliceElem.2, sz1] at this
        rw [this]
        simp only [Result.andThen, sliced, Int.toNat_natCast, if_pos hc]
      · have := Lib.run_convert_window (P := Tryz.prog) (w.drewN q) 63 5 9 Tryz.underlying63 Tryz.underlying5 Tryz.underlying9 g 0 s (hby.drewN q) 0 (s.size - l) (cap - l) (by omega)
        rw [show s.size - l = 0 by omega] at this ⊢
        rw [this]
        congr 2
        rw [hn0]
        apply ByteArray.ext
        simp
    · refine ⟨some ⟨g, l, none⟩, cap - l, fun W => ?_, fun q => ?_⟩
      · have := run_slice_l (P := Tryz.prog) (w := W) 63 (some ⟨g, 0, none⟩) s.size cap sliceElem.1 .i64 l (by omega) (by omega)
        rw [sliceElem.2, sz1] at this
        rw [this]
        simp only [Result.andThen, sliced, Int.toNat_natCast, if_neg hc, Option.map_some, Nat.mul_one, Addr.add_lit, Nat.zero_add]
      · have := Lib.run_convert_window (P := Tryz.prog) (w.drewN q) 63 5 9 Tryz.underlying63 Tryz.underlying5 Tryz.underlying9 g 0 s (hby.drewN q) l (s.size - l) (cap - l) (by omega)
        rw [Nat.zero_add, show l + (s.size - l) = s.size by omega] at this
        exact this
theorem strCells_take (s : ByteArray) (h : Nat) (hh : h ≤ s.size) : (Lib.strCells s).take h = Lib.strCells (s.extract 0 h) := by
  unfold Lib.strCells
  rw [← List.map_take]
  congr 1
  show _ = (s.extract 0 h).data.toList
  rw [ByteArray.data_extract]
  simp
set_option maxRecDepth 100000 in
theorem slice_high {w : World} {B : Nat} {v : Value} {s : ByteArray} (h : w.ownsRow B 5 1 v s.size (Lib.strCells s)) (k : Nat) (hk : k ≤ s.size) :
    ∃ a c, (∀ W, (Instr.slice 63 v none (some (.int .i64 k)) none).run Tryz.prog W = .ok (.slice a k c) W) ∧ w.ownsRow B 5 1 (.slice a k c) (s.extract 0 k).size (Lib.strCells (s.extract 0 k)) ∧ (Value.slice a k c).ownBlock = v.ownBlock := by
  have hz : (s.extract 0 k).size = k := by rw [ByteArray.size_extract]; omega
  rw [hz, ← strCells_take s k hk]
  rcases h.2 with ⟨rfl, h0⟩ | ⟨g, cap, cur, rfl, hg, hh, hn, hm, hcs, htk⟩
  · have hk0 : k = 0 := by omega
    subst hk0
    refine ⟨none, 0, fun W => ?_, World.ownsRow_nil _ _ _ _, rfl⟩
    have := run_slice_h (P := Tryz.prog) (w := W) 63 none 0 0 sliceElem.1 .i64 0 (by omega) (by omega)
    rw [sliceElem.2, sz1] at this
    exact this
  · refine ⟨some ⟨g, 0, none⟩, cap, fun W => ?_, ⟨by rw [List.length_take, h.1]; omega, .inr ⟨g, cap, cur, rfl, hg, hh, by omega, hm, hcs, ?_⟩⟩, rfl⟩
    · have := run_slice_h (P := Tryz.prog) (w := W) 63 (some ⟨g, 0, none⟩) s.size cap sliceElem.1 .i64 k (by omega) (by omega)
      rw [sliceElem.2, sz1] at this
      rw [this]
      simp only [Result.andThen, sliced, Int.toNat_natCast, Nat.zero_mul, Nat.sub_zero, Option.map_some, Addr.add_lit, ite_self]
    · rw [← htk, List.take_take]
      congr 1
      omega

/-- The records of a stream, as the reader finds them. -/
def recsFrom : Nat → Oct.Rs → List ByteArray
  | 0, _ => []
  | m + 1, st => if (Oct.rnum st 2).1 = 0 ∨ (Oct.rbytes (Oct.rnum st 2).2 (Oct.rnum st 2).1).2.isNone = true then [] else (Oct.rbytes (Oct.rnum st 2).2 (Oct.rnum st 2).1).1 :: recsFrom m (Oct.rbytes (Oct.rnum st 2).2 (Oct.rnum st 2).1).2
/-- Where they stand. -/
def plcFrom : Nat → List ByteArray → List Nat
  | _, [] => []
  | a, r :: l => a :: plcFrom (a + (2 + r.size)) l
def total (l : List ByteArray) : Nat := (l.map fun r => 2 + r.size).sum
/-- Entries' cells. -/
def enL : Nat → List ByteArray → List Value
  | _, [] => []
  | a, r :: l => [.int .i64 (a : Int), .string r] ++ enL (a + (2 + r.size)) l
theorem total_snoc (l : List ByteArray) (r : ByteArray) : total (l ++ [r]) = total l + (2 + r.size) := by simp [total]
theorem plc_snoc : ∀ (l : List ByteArray) (a : Nat) (r : ByteArray), plcFrom a (l ++ [r]) = plcFrom a l ++ [a + total l]
  | [], a, r => by simp [plcFrom, total]
  | x :: l, a, r => by
    show a :: plcFrom (a + (2 + x.size)) (l ++ [r]) = a :: (plcFrom (a + (2 + x.size)) l ++ [a + total (x :: l)])
    rw [plc_snoc l]
    have : total (x :: l) = (2 + x.size) + total l := by simp [total]
    rw [this, Nat.add_assoc]
theorem enL_snoc : ∀ (l : List ByteArray) (a : Nat) (r : ByteArray), enL a (l ++ [r]) = enL a l ++ [.int .i64 ((a + total l : Nat) : Int), .string r]
  | [], a, r => by simp [enL, total]
  | x :: l, a, r => by
    show [Value.int .i64 (a : Int), Value.string x] ++ enL (a + (2 + x.size)) (l ++ [r]) = ([Value.int .i64 (a : Int), Value.string x] ++ enL (a + (2 + x.size)) l) ++ _
    rw [enL_snoc l]
    have : total (x :: l) = (2 + x.size) + total l := by simp [total]
    rw [this, List.append_assoc, Nat.add_assoc]
theorem plc_length : ∀ (l : List ByteArray) (a : Nat), (plcFrom a l).length = l.length
  | [], _ => rfl
  | x :: l, a => by show (plcFrom (a + (2 + x.size)) l).length + 1 = _; rw [plc_length l]; rfl
theorem enL_length : ∀ (l : List ByteArray) (a : Nat), (enL a l).length = l.length * 2
  | [], _ => rfl
  | x :: l, a => by show ([Value.int .i64 (a : Int), Value.string x] ++ enL (a + (2 + x.size)) l).length = _; rw [List.length_append, enL_length l]; simp; omega
/-- A record that was read: two bytes and its own are gone. -/
theorem rd_less (st : Oct.Rs) (h : ¬ ((Oct.rnum st 2).1 = 0 ∨ (Oct.rbytes (Oct.rnum st 2).2 (Oct.rnum st 2).1).2.isNone = true)) :
    ((Oct.rbytes (Oct.rnum st 2).2 (Oct.rnum st 2).1).2.getD ⟨#[]⟩).size + (2 + (Oct.rbytes (Oct.rnum st 2).2 (Oct.rnum st 2).1).1.size) = (st.getD ⟨#[]⟩).size ∧ (Oct.rbytes (Oct.rnum st 2).2 (Oct.rnum st 2).1).1.size = (Oct.rnum st 2).1 := by
  cases st with
  | none => exact absurd (.inl rfl) h
  | some s =>
    have e : Oct.rnum (some s) 2 = (Oct.nval (Oct.rbytes (some s) 2).1, (Oct.rbytes (some s) 2).2) := by
      show (if (2 : Int) < 1 ∨ 8 < (2 : Int) then ((0 : Nat), (none : Oct.Rs)) else (Oct.nval (Oct.rbytes (some s) 2).1, (Oct.rbytes (some s) 2).2)) = _
      rw [if_neg (by omega)]
    rw [e] at h ⊢
    by_cases h2 : s.size < 2
    · have e2 : Oct.rbytes (some s) 2 = (⟨#[]⟩, none) := by
        show (if (2 : Int) < 0 ∨ (s.size : Int) < 2 then ((⟨#[]⟩ : ByteArray), (none : Oct.Rs)) else _) = _
        rw [if_pos (by omega)]
      rw [e2] at h
      exact absurd (.inl rfl) h
    · have e2 : Oct.rbytes (some s) 2 = (s.extract 0 2, some (s.extract 2 s.size)) := by
        show (if (2 : Int) < 0 ∨ (s.size : Int) < 2 then ((⟨#[]⟩ : ByteArray), (none : Oct.Rs)) else (s.extract 0 (2 : Int).toNat, some (s.extract (2 : Int).toNat s.size))) = _
        rw [if_neg (by omega)]
        rfl
      rw [e2] at h ⊢
      dsimp only at h ⊢
      generalize Oct.nval (s.extract 0 2) = n at *
      by_cases h3 : (s.extract 2 s.size).size < n
      · have e3 : Oct.rbytes (some (s.extract 2 s.size)) n = (⟨#[]⟩, none) := by
          show (if (n : Int) < 0 ∨ ((s.extract 2 s.size).size : Int) < n then ((⟨#[]⟩ : ByteArray), (none : Oct.Rs)) else _) = _
          rw [if_pos (by omega)]
        rw [e3] at h
        exact absurd (.inr rfl) h
      · have e3 : Oct.rbytes (some (s.extract 2 s.size)) n = ((s.extract 2 s.size).extract 0 n, some ((s.extract 2 s.size).extract n (s.extract 2 s.size).size)) := by
          show (if (n : Int) < 0 ∨ ((s.extract 2 s.size).size : Int) < n then ((⟨#[]⟩ : ByteArray), (none : Oct.Rs)) else ((s.extract 2 s.size).extract 0 (n : Int).toNat, some ((s.extract 2 s.size).extract (n : Int).toNat (s.extract 2 s.size).size))) = _
          rw [if_neg (by omega), Int.toNat_natCast]
        rw [e3]
        simp only [Option.getD_some, ByteArray.size_extract] at h3 ⊢
        omega
end Go.Proofs.YtgafajbdmegfgaaGreat
