/- The tail of a row of one's own; slices.Clone at []byte and of a row's tail; BinarySearch over a row of one's own. -/
import Derived.Test.YtplcddcdhnjfeaaWalOpen
set_option linter.unusedVariables false
set_option linter.unusedSimpArgs false
namespace Go.Proofs.Ytplcddcdhnjfeaa
open Go.RowKit

theorem intsElem : Try.prog.underlying 23 = some (.slice (Try.prog.elem 23)) ∧ Try.prog.elem 23 = 3 := by
  have he : Try.prog.elem 23 = 3 := by simp [Program.elem, Try.underlying23]
  exact ⟨by rw [he]; exact Try.underlying23, he⟩
theorem szInt (w : World) : (Go.sizeOf 3).run Try.prog w = .ok 1 w := by kernel_rfl
/-- From place k on. -/
def Tl (w : World) (a : Option Addr) (k m : Nat) (xs : List Value) : Prop := (a = none ∧ m = 0) ∨ ∃ b off, a = some ⟨b, off, none⟩ ∧ ∀ j x, (xs.drop k)[j]? = some x → w.cell? ⟨b, off + j, none⟩ = some x
theorem Tl.kept {w w' : World} {a : Option Addr} {k m : Nat} {xs : List Value} (h : Tl w a k m xs) (hb : Below w.heap.size w w') (hlt : ∀ b off, a = some (⟨b, off, none⟩ : Addr) → b < w.heap.size) : Tl w' a k m xs := by
  rcases h with h | ⟨b, off, e, hc⟩
  · exact .inl h
  · exact .inr ⟨b, off, e, fun j x hx => by rw [hb.cell (p := ⟨b, off + j, none⟩) (hlt b off e)]; exact hc j x hx⟩
theorem tail_row {t e : TypeId} (ht : Try.prog.underlying t = some (.slice (Try.prog.elem t)) ∧ Try.prog.elem t = e) (hs : ∀ w, (Go.sizeOf e).run Try.prog w = .ok 1 w) {w : World} {B : Nat} {v : Value} {n : Nat} {xs : List Value} (h : w.ownsRow B e 1 v n xs) (k : Nat) (hk : k ≤ n) :
    ∃ a c, (∀ W, (Instr.slice t v (some (.int .i64 k)) none none).run Try.prog W = .ok (.slice a (n - k) c) W) ∧ Tl w a k (n - k) xs ∧ (∀ b off, a = some (⟨b, off, none⟩ : Addr) → b < w.heap.size) := by
  rcases h.2 with ⟨rfl, h0⟩ | ⟨g, cap, cur, rfl, hg, hh, hn, hm, r⟩
  · have hk0 : k = 0 := by omega
    subst hk0 h0
    refine ⟨none, 0, fun W => ?_, .inl ⟨rfl, rfl⟩, fun b off h => by cases h⟩
    have := run_slice_l (P := Try.prog) (w := W) t none 0 0 ht.1 .i64 0 (by omega) (by omega)
    rw [ht.2, hs] at this
    exact this
  · have hgl : g < w.heap.size := by
      rcases Nat.lt_or_ge g w.heap.size with q | q
      · exact q
      · rw [Array.getElem?_eq_none q] at hh; cases hh
    have hxl : xs.length = n := by have := h.1; omega
    by_cases hc : cap = k
    · refine ⟨some ⟨g, 0, none⟩, cap - k, fun W => ?_, .inr ⟨g, 0, rfl, fun j x hx => ?_⟩, fun b off h => by injection h with h; injection h with h; omega⟩
      · have := run_slice_l (P := Try.prog) (w := W) t (some ⟨g, 0, none⟩) n cap ht.1 .i64 k (by omega) (by omega)
        rw [ht.2, hs] at this
        rw [this]
        simp only [Result.andThen, sliced, Int.toNat_natCast, if_pos hc]
      · rw [List.drop_eq_nil_of_le (by omega)] at hx
        cases hx
    · refine ⟨some ⟨g, k, none⟩, cap - k, fun W => ?_, .inr ⟨g, k, rfl, fun j x hx => ?_⟩, fun b off h => by injection h with h; injection h with h; omega⟩
      · have := run_slice_l (P := Try.prog) (w := W) t (some ⟨g, 0, none⟩) n cap ht.1 .i64 k (by omega) (by omega)
        rw [ht.2, hs] at this
        rw [this]
        simp only [Result.andThen, sliced, Int.toNat_natCast, if_neg hc, Option.map_some, Nat.mul_one, Addr.add_lit, Nat.zero_add]
      · rw [List.getElem?_drop] at hx
        have := h.cells (g := g) rfl (k + j) x hx
        rw [Addr.add_lit, Nat.zero_add] at this
        exact this
theorem list_noneB (w : World) (a : Option Addr) (n c n' c' : Nat) : (binOp .eql 59 (.slice a n c) (.slice none n' c')).run Try.prog w = .ok (.bool a.isNone) w :=
  Lib.run_eql_slice_nil w _ _ a n c n' c' Try.underlying59
theorem Try.infoB : (Try.prog.info? 5).map (fun i => (i.zero, i.size, i.bytes)) = some (some (.int .u8 0), 1, 1) := by kernel_rfl
set_option maxRecDepth 100000 in
theorem cloneB_any (a : Option Addr) (m c : Nat) (xs : List Value) (k : Nat) (w : World) (h : Tl w a k m xs) (hz : (xs.drop k).length = m) (hbig : m ≤ 140737488355328) (h1 : ∀ u ∈ xs, u.oneCell' = true) :
    Calls Try.prog 40 #[.slice a m c] w fun e w' => ∃ v', e = .returned v' ∧ w'.ownsRow w.heap.size 5 1 v' m (xs.drop k) ∧ Below w.heap.size w w' := by
  have q := fun w a n c n' c' => list_noneB w a n c n' c'
  have hone : ∀ u ∈ xs.drop k, u.oneCell' = true := fun u hu => h1 u (List.mem_of_mem_drop hu)
  rcases h with ⟨rfl, rfl⟩ | ⟨b, off, rfl, hc⟩
  · have hx : xs.drop k = [] := List.eq_nil_of_length_eq_zero hz
    rw [hx]
    have R := Lib.hid (World.ownsRow_nil w w.heap.size 5 1)
    clear hx hz hone h1
    go_enter Try.func40, Try.ntmps40
    go_wp2
    go_ret
    exact ⟨_, rfl, R.out, Below.refl _ _⟩
  · generalize xs.drop k = zs at *
    obtain ⟨i0, hi, hz0, hz1, hz2⟩ := info_parts Try.infoB
    have A := Lib.hid hc
    have ON := Lib.hid hone
    clear hc h1 hone
    go_enter Try.func40, Try.ntmps40
    go_wp2_with (at_builtin; refine wpList_append_own _ rfl _ _ 59 rfl w.heap.size 5 i0 (.int .u8 0) 1 1 Try.underlying59 hi hz0 hz1 hz2 rfl (by decide) _ _ _ rfl (World.ownsRow_made w #[] 0 (Nat.le_refl _) (Nat.zero_le _) rfl) ⟨b, off, none⟩ m c zs rfl ?qc1 ?qc2 ?qc3 ?qc4 ?qc5 ?qc6 ?_)
    case qc1 => omega
    case qc2 =>
      intro j u hj
      rw [Addr.add_lit]
      exact Lib.cell?_alloc_some _ (A.out j u hj)
    case qc3 => exact ON.out
    case qc4 => unfold maxLen; omega
    case qc5 => omega
    case qc6 => simp
    intro v' w1 hown hgrow hnil
    go_wp2
    go_ret
    refine ⟨v', rfl, by simpa using hown, ?_⟩
    exact ((Below.refl _ w).alloc (Nat.le_refl _) _).grown hgrow (by simp) (by intro k hk; simp [Value.ownBlock] at hk; omega)
/-- slices.Clone of a tail of places. -/
theorem cloneI_any (a : Option Addr) (m c : Nat) (l : List Nat) (k : Nat) (w : World) (h : Tl w a k m (ints l)) (hz : (l.drop k).length = m) (hbig : m * 8 ≤ 140737488355328) :
    Calls Try.prog 39 #[.slice a m c] w fun e w' => ∃ v', e = .returned v' ∧ w'.ownsRow w.heap.size 3 1 v' m (ints (l.drop k)) ∧ Below w.heap.size w w' := by
  have hd : (ints l).drop k = ints (l.drop k) := by unfold ints; rw [List.map_drop]
  rcases h with ⟨rfl, rfl⟩ | ⟨b, off, rfl, hc⟩
  · have hx : l.drop k = [] := List.eq_nil_of_length_eq_zero hz
    rw [hx]
    refine (Try.slices_Clone_int_nil 0 c w).mono ?_
    rintro e w' ⟨rfl, rfl⟩
    exact ⟨_, rfl, World.ownsRow_nil _ _ _ _, Below.refl _ _⟩
  · rw [hd] at hc
    generalize l.drop k = zs at *
    have c := Try.slices_Clone_int b off m c (zs.map fun x : Nat => (x : Int)) w (by rw [List.length_map]; omega) hbig (fun j hj => by
      rw [List.length_map] at hj
      have := hc j (.int .i64 ((zs[j] : Nat) : Int)) (by unfold ints; rw [List.getElem?_map, List.getElem?_eq_getElem hj]; rfl)
      rw [this, List.getD_eq_getElem?_getD, List.getElem?_map, List.getElem?_eq_getElem hj]
      rfl)
    refine c.mono ?_
    rintro e w' ⟨v', rfl, ho, -, hb⟩
    refine ⟨v', rfl, ?_, hb⟩
    rw [← List.map_take, List.take_of_length_le (by omega), List.map_map] at ho
    exact ho
/-- slices.BinarySearch over places. -/
theorem search_any {w : World} {B : Nat} {v : Value} {l : List Nat} (h : w.ownsRow B 3 1 v l.length (ints l)) (x : Nat) (hl : l.length < 4611686018427387904) (hs : l.Pairwise (· < ·)) :
    Calls Try.prog 38 #[v, .int .i64 x] w fun e w' => e = .returned (.tuple #[.int .i64 (l.countP (· < x) : Nat), .bool (l.contains x)]) ∧ Below w.heap.size w w' := by
  rcases h.2 with ⟨rfl, h0⟩ | ⟨g, cap, cur, rfl, hg, hh, hn, hm, r⟩
  · have : l = [] := List.eq_nil_of_length_eq_zero h0
    subst this
    refine (Try.slices_BinarySearch_int_empty none 0 (x : Int) w).mono ?_
    rintro e w' ⟨rfl, rfl⟩
    exact ⟨rfl, Below.refl _ _⟩
  · have c := Try.slices_BinarySearch_int g 0 l.length cap (l.map fun x : Nat => (x : Int)) (x : Int) w (by rw [List.length_map]; exact Nat.le_refl _) hl (fun j hj => by
      rw [List.length_map] at hj
      have := h.cells (g := g) rfl j (.int .i64 ((l[j] : Nat) : Int)) (by unfold ints; rw [List.getElem?_map, List.getElem?_eq_getElem hj]; rfl)
      rw [Addr.add_lit] at this
      rw [this, List.getD_eq_getElem?_getD, List.getElem?_map, List.getElem?_eq_getElem hj]
      rfl) (by
      rw [← List.map_take, List.take_of_length_le (Nat.le_refl _), List.pairwise_map]
      exact hs.imp fun h => by omega)
    rw [← List.map_take, List.take_of_length_le (Nat.le_refl _)] at c
    have e1 : (l.map fun x : Nat => (x : Int)).countP (· < (x : Int)) = l.countP (· < x) := by
      rw [List.countP_map]
      congr 1
      funext y
      simp
    have e2 : (l.map fun x : Nat => (x : Int)).contains (x : Int) = l.contains x := by
      rw [Bool.eq_iff_iff, List.contains_iff_mem, List.contains_iff_mem, List.mem_map]
      constructor
      · rintro ⟨y, hy, e⟩
        obtain rfl : y = x := by omega
        exact hy
      · intro hx; exact ⟨x, hx, rfl⟩
    rw [e1, e2] at c
    refine c.mono ?_
    rintro e w' ⟨rfl, q, rfl⟩
    exact ⟨rfl, below_drewN (Below.refl _ _) q⟩
end Go.Proofs.Ytplcddcdhnjfeaa
