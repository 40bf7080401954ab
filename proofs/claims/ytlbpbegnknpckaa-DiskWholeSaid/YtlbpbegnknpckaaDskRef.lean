/- The walks of the reference's device: burn, Read, Write. -/
import Derived.Test.YtlbpbegnknpckaaDskLaws3
set_option linter.unusedVariables false
set_option linter.unusedSimpArgs false
namespace Go.Proofs.Ytlbpbegnknpckaa
open Go.RowKit

/-- Where the reference's device lies. -/
structure Rds where
  g : Nat
  f : Nat
  fc : Nat
  p : Value
def Rds.foot (I : Rds) (k : Nat) : Prop := k = I.g ∨ k = I.f ∨ I.p.ownBlock = some k
def Rds.box (I : Rds) (S : Dsk) : Array Value := #[.slice (some ⟨I.f, 0, none⟩) S.firm.length I.fc, I.p, .int .i64 S.fuel, .bool S.down]
def Rds.ptr (I : Rds) : Value := .pointer (some ⟨I.g, 0, none⟩)
def Rds.with (I : Rds) (p : Value) : Rds := { I with p := p }

structure Rk (w : World) (B : Nat) (I : Rds) (S : Dsk) : Prop where
  box : Bk w I.g 42 (I.box S)
  firm : Rw w I.f 9 (S.firm.map .string)
  pend : w.ownsRow B 70 2 I.p S.pend.length (pcells S.pend)
  bg : B ≤ I.g
  bf : B ≤ I.f
  ok : S.ok

namespace Rk
variable {w w' : World} {B : Nat} {I : Rds} {S : Dsk}
theorem foot_lt (h : Rk w B I S) {k : Nat} (hk : I.foot k) : B ≤ k ∧ k < w.heap.size := by
  rcases hk with rfl | rfl | hk
  · exact ⟨h.bg, h.box.lt⟩
  · exact ⟨h.bf, h.firm.lt⟩
  · exact ⟨(owns_block h.pend hk).1, (owns_block h.pend hk).2.1⟩
theorem of_same (h : Rk w B I S) (hb : ∀ k, I.foot k → w'.heap[k]? = w.heap[k]?) : Rk w' B I S :=
  ⟨(hb _ (.inl rfl)).trans h.box, h.firm.of_block (hb _ (.inr (.inl rfl))), owns_of_block h.pend (fun k hk => hb k (.inr (.inr hk))), h.bg, h.bf, h.ok⟩
theorem kept (h : Rk w B I S) (hb : Below w.heap.size w w') : Rk w' B I S := h.of_same fun k hk => hb.block k (h.foot_lt hk).2
theorem out {p : Nat → Prop} (h : Rk w B I S) (hb : Out w w' p) (hn : ∀ k, I.foot k → ¬ p k) : Rk w' B I S := h.of_same fun k hk => hb.block k (h.foot_lt hk).2 (hn k hk)
theorem gf (h : Rk w B I S) : I.f ≠ I.g := h.firm.ne_bk h.box (by decide)
theorem pg (h : Rk w B I S) {k : Nat} (hk : I.p.ownBlock = some k) : k ≠ I.g ∧ k ≠ I.f := by
  obtain ⟨_, _, cur, hc⟩ := owns_block h.pend hk
  exact ⟨hc.ne_ h.box (by decide), fun e => h.firm.ne_bk hc (by decide) e.symm⟩
theorem cells (h : Rk w B I S) : w.cell? ⟨I.g, 0, none⟩ = some (.slice (some ⟨I.f, 0, none⟩) S.firm.length I.fc) ∧ w.cell? ⟨I.g, 1, none⟩ = some I.p ∧ w.cell? ⟨I.g, 2, none⟩ = some (.int .i64 S.fuel) ∧ w.cell? ⟨I.g, 3, none⟩ = some (.bool S.down) :=
  ⟨h.box.cell 0, h.box.cell 1, h.box.cell 2, h.box.cell 3⟩
theorem pval (h : Rk w B I S) : ∃ a c, I.p = .slice a S.pend.length c := by
  rcases h.pend.2 with ⟨e, e2⟩ | ⟨g, cap, cur, e, _⟩
  · exact ⟨none, 0, by rw [e, e2]⟩
  · exact ⟨_, _, e⟩
theorem plen (h : Rk w B I S) : S.pend.length ≤ 9223372036854775807 := by
  rcases h.pend.2 with ⟨e, e2⟩ | ⟨g, cap, cur, e, hg, hh, hn, hc, hs, ht⟩
  · omega
  · unfold maxLen at hc; omega
theorem pcell (h : Rk w B I S) (i : Nat) (hi : i < S.pend.length) :
    ∃ gp c, I.p = .slice (some ⟨gp, 0, none⟩) S.pend.length c ∧ gp < w.heap.size ∧ w.cell? ⟨gp, i * 2, none⟩ = some (.int .i64 (S.pend[i].1 : Int)) ∧ w.cell? ⟨gp, i * 2 + 1, none⟩ = some (.string S.pend[i].2) := by
  rcases h.pend.2 with ⟨e, e2⟩ | ⟨g, cap, cur, e, hg, hh, hn, hc, hs, ht⟩
  · omega
  · have hb : Bk w g 70 cur := hh
    obtain ⟨q0, q1⟩ := pcells_get S.pend i hi
    refine ⟨g, cap, e, hb.lt, ?_, ?_⟩
    · rw [hb.cell, ← q0, ← ht, List.getElem?_take_of_lt (by omega), Array.getElem?_toList]
    · rw [hb.cell, ← q1, ← ht, List.getElem?_take_of_lt (by omega), Array.getElem?_toList]
theorem setFuel (h : Rk w B I S) (n : Int) (h0 : -1 ≤ n) (h1 : n ≤ 9223372036854775807) : Rk (w.setCell ⟨I.g, 2, none⟩ (.int .i64 n)) B I { S with fuel := n } :=
  ⟨h.box.set 2 _, h.firm.far h.gf _, owns_of_block h.pend (fun k hk => Below.heap_setCell w _ _ k (h.pg hk).1), h.bg, h.bf, ⟨h.ok.len, h.ok.one, h.ok.most, h.ok.pend, h0, h1, h.ok.sizes, h.ok.fsizes, h.ok.psizes⟩⟩
theorem setDown (h : Rk w B I S) : Rk (w.setCell ⟨I.g, 3, none⟩ (.bool true)) B I { S with down := true } :=
  ⟨h.box.set 3 _, h.firm.far h.gf _, owns_of_block h.pend (fun k hk => Below.heap_setCell w _ _ k (h.pg hk).1), h.bg, h.bf, ⟨h.ok.len, h.ok.one, h.ok.most, h.ok.pend, h.ok.lo, h.ok.hi, h.ok.sizes, h.ok.fsizes, h.ok.psizes⟩⟩
theorem setNil (h : Rk w B I S) : Rk (w.setCell ⟨I.g, 1, none⟩ (.slice none 0 0)) B (I.with (.slice none 0 0)) { S with pend := [] } :=
  ⟨h.box.set 1 _, h.firm.far h.gf _, World.ownsRow_nil _ _ _ _, h.bg, h.bf, ⟨h.ok.len, h.ok.one, h.ok.most, fun p hp => by simp at hp, h.ok.lo, h.ok.hi, h.ok.sizes, h.ok.fsizes, fun p hp => by simp at hp⟩⟩
theorem setFirm (h : Rk w B I S) (k : Nat) (d : ByteArray) (hk : k < S.firm.length) (h64 : d.size = 64) : Rk (w.setCell ⟨I.f, k, none⟩ (.string d)) B I (S.firmed (S.firm.set k d)) :=
  ⟨by have := h.box.far (p := ⟨I.f, k, none⟩) h.gf.symm (.string d); simpa [Rds.box, Dsk.firmed] using this,
   by have := h.firm.set k (.string d) (by simpa using hk); simpa [Dsk.firmed, List.map_set] using this,
   owns_of_block h.pend (fun j hj => Below.heap_setCell w _ _ j (h.pg hj).2), h.bg, h.bf,
   ⟨by simp [Dsk.firmed, h.ok.len], by simp [Dsk.firmed, h.ok.one], by simp [Dsk.firmed, h.ok.most], fun p hp => by simpa [Dsk.firmed] using h.ok.pend p hp, h.ok.lo, h.ok.hi, h.ok.sizes, set_sizes h.ok.fsizes k d h64, h.ok.psizes⟩⟩
end Rk

theorem rburn_out {w : World} {B : Nat} {I : Rds} {S : Dsk} (h : Rk w B I S) (h0 : S.fuel = 0) :
    Calls Try.prog 30 #[I.ptr] w fun e w' => e = .returned (.bool false) ∧ Rk w' B I { S with down := true } ∧ Out w w' I.foot := by
  obtain ⟨c0, c1, c2, c3⟩ := h.cells
  rw [h0] at c2
  have f3 := h.box.fz 3
  have hd := h.setDown
  have ho : Out w (w.setCell ⟨I.g, 3, none⟩ (.bool true)) I.foot := (Out.refl w _).set (fun _ => .inl rfl) _
  have HD := Lib.hid hd; have HO := Lib.hid ho
  clear h hd ho
  unfold Rds.ptr
  go_enter Try.func30, Try.ntmps30
  go_wp2
  go_ret
  exact ⟨rfl, HD.out, HO.out⟩
theorem rburn_on {w : World} {B : Nat} {I : Rds} {S : Dsk} (h : Rk w B I S) (h0 : S.fuel ≠ 0) :
    Calls Try.prog 30 #[I.ptr] w fun e w' => e = .returned (.bool true) ∧ Rk w' B I S.burnt ∧ Out w w' I.foot := by
  obtain ⟨c0, c1, c2, c3⟩ := h.cells
  have f2 := h.box.fz 2
  have lo := h.ok.lo; have hi := h.ok.hi
  have t0 : (S.fuel == 0) = false := by simpa using h0
  unfold Dsk.burnt
  by_cases hp : 0 < S.fuel
  · rw [if_pos hp]
    have hd := h.setFuel (S.fuel - 1) (by omega) (by omega)
    have ho : Out w (w.setCell ⟨I.g, 2, none⟩ (.int .i64 (S.fuel - 1))) I.foot := (Out.refl w _).set (fun _ => .inl rfl) _
    have HD := Lib.hid hd; have HO := Lib.hid ho
    clear h hd ho
    unfold Rds.ptr
    go_enter Try.func30, Try.ntmps30
    go_wp2
    go_ret
    exact ⟨rfl, HD.out, HO.out⟩
  · rw [if_neg hp]
    have HD := Lib.hid h
    clear h
    unfold Rds.ptr
    go_enter Try.func30, Try.ntmps30
    go_wp2
    go_ret
    exact ⟨rfl, HD.out, Out.refl _ _⟩

theorem firm_get {l : List ByteArray} {k : Nat} (hk : k < l.length) : (l.map Value.string)[k]? = some (.string (l.getD k ⟨#[]⟩)) := by
  rw [List.getElem?_map, List.getD_eq_getElem?_getD, List.getElem?_eq_getElem hk]
  rfl
theorem set_get (l : List ByteArray) (i k : Nat) (d : ByteArray) (hk : k < l.length) : (l.set i d).getD k ⟨#[]⟩ = if i = k then d else l.getD k ⟨#[]⟩ := by
  rw [List.getD_eq_getElem?_getD, List.getElem?_set]
  by_cases e : i = k
  · subst e; rw [if_pos rfl, if_pos rfl, if_pos hk]; rfl
  · rw [if_neg e, if_neg e, ← List.getD_eq_getElem?_getD]

set_option maxHeartbeats 1000000 in
theorem rread_any {w : World} {B : Nat} {I : Rds} {S : Dsk} (h : Rk w B I S) (i : Int) (hnow : S.now = apply S.firm S.pend) :
    Calls Try.prog 23 #[I.ptr, .int .i64 i] w fun e w' => e = .returned (.tuple #[.string (S.read i).1, .int .i64 (S.read i).2]) ∧ w' = w := by
  obtain ⟨c0, c1, c2, c3⟩ := h.cells
  obtain ⟨a, c, ep⟩ := h.pval
  have c1' := c1
  rw [ep] at c1'
  unfold Dsk.read
  rcases hd : S.down with _ | _
  · rw [hd] at c3
    by_cases hi : 0 ≤ i ∧ i < S.firm.length
    · rw [if_neg (by simp), if_pos hi]
      obtain ⟨k, rfl⟩ := Int.eq_ofNat_of_zero_le hi.1
      have hk : k < S.firm.length := by omega
      have n0 := h.firm.cell (i := k) (by rw [List.length_map]; exact hk)
      rw [firm_get hk] at n0
      have H := Lib.hid h; have HN := Lib.hid hnow; have EP := Lib.hid ep
      have hpl := h.plen
      clear h hi hd hnow ep c1
      unfold Rds.ptr
      simp only [Int.toNat_natCast]
      go_enter Try.func23, Try.ntmps23
      go_wp2
      go_loopw [6, 7] (fun s i wr => ∃ j : Nat, j ≤ S.pend.length ∧ i = .int .i64 j ∧ s = .string ((apply S.firm (S.pend.take j)).getD k ⟨#[]⟩) ∧ wr = w) (fun s i _ => S.pend.length - (intOf i).toNat)
      case atStart => exact ⟨0, Nat.zero_le _, rfl, by show Value.string _ = Value.string (S.firm.getD k ⟨#[]⟩); rw [List.getD_eq_getElem?_getD, List.getElem?_eq_getElem hk]; rfl, by first | rfl | trivial⟩
      case round =>
        obtain ⟨j, hj, rfl, rfl, hw⟩ := hrel
        subst wr
        by_cases hlt : j < S.pend.length
        · obtain ⟨gp, c', e', hgp, q0, q1⟩ := H.out.pcell j hlt
          have e2 := EP.out
          rw [e2] at e'
          injection e' with e3 e4 e5
          subst e3 e5
          have hst := apply_take S.firm S.pend j hlt
          have HLT := Lib.hid hlt
          have hl : k < (apply S.firm (S.pend.take j)).length := by rw [apply_length]; exact hk
          generalize S.pend[j] = pk at *
          obtain ⟨s, d⟩ := pk
          simp only at q0 q1 hst
          have sg := set_get (apply S.firm (S.pend.take j)) s k d hl
          rw [← hst] at sg
          by_cases hs : s = k
          · have t : ((s : Int) == (k : Int)) = true := by simp [hs]
            rw [if_pos hs] at sg
            have SG := Lib.hid sg
            clear hst sg hs e2
            go_wp2
            go_roundw
            case rel => exact ⟨j + 1, HLT.out, by have := HLT.out; go_num, by rw [SG.out], by first | rfl | trivial⟩
            case measure => have := HLT.out; simp [intOf]; omega
          · have t : ((s : Int) == (k : Int)) = false := by simp; omega
            rw [if_neg hs] at sg
            have SG := Lib.hid sg
            clear hst sg hs e2
            go_wp2
            go_roundw
            case rel => exact ⟨j + 1, HLT.out, by have := HLT.out; go_num, by rw [SG.out], by first | rfl | trivial⟩
            case measure => have := HLT.out; simp [intOf]; omega
        · obtain rfl : j = S.pend.length := by omega
          rw [List.take_length, ← HN.out]
          go_wp2
          go_ret2
          exact ⟨rfl, rfl⟩
    · rw [if_neg (by simp), if_neg hi]
      clear h hd ep hnow
      unfold Rds.ptr
      go_enter Try.func23, Try.ntmps23
      by_cases h0 : i < 0
      · go_wp2
        go_ret2
        exact ⟨rfl, rfl⟩
      · have hge : (S.firm.length : Int) ≤ i := by omega
        go_wp2
        go_ret2
        exact ⟨rfl, rfl⟩
  · rw [hd] at c3
    rw [if_pos rfl]
    clear h hd ep hnow
    unfold Rds.ptr
    go_enter Try.func23, Try.ntmps23
    go_wp2
    go_ret2
    exact ⟨rfl, rfl⟩
end Go.Proofs.Ytlbpbegnknpckaa
