/- The walks of package disk: the small methods. -/
import Derived.Test.YtplcddcdhnjfeaaDskRep
import Derived.Test.YtplcddcdhnjfeaaDskPlain
set_option linter.unusedVariables false
set_option linter.unusedSimpArgs false
namespace Go.Proofs.Ytplcddcdhnjfeaa
open Go.RowKit

/-- A device in memory. -/
structure Dk (w : World) (B : Nat) (I : Ids) (S : Dsk) : Prop where
  box : Bk w I.g 70 (I.box S)
  firm : Rw w I.f 9 (S.firm.map .string)
  now : Rw w I.n 9 (S.now.map .string)
  pend : w.ownsRow B 76 2 I.p S.pend.length (pcells S.pend)
  ne : I.f ≠ I.n
  bg : B ≤ I.g
  bf : B ≤ I.f
  bn : B ≤ I.n
  ok : S.ok

theorem owns_of_block {w w' : World} {base : Nat} {e : TypeId} {size : Nat} {v : Value} {n : Nat} {xs : List Value} (h : w.ownsRow base e size v n xs) (hb : ∀ k, v.ownBlock = some k → w'.heap[k]? = w.heap[k]?) : w'.ownsRow base e size v n xs := by
  obtain ⟨h1, h2⟩ := h
  refine ⟨h1, ?_⟩
  rcases h2 with h | ⟨g, cap, cur, rfl, hg, hh, r⟩
  · exact .inl h
  · exact .inr ⟨g, cap, cur, rfl, hg, (hb g rfl).trans hh, r⟩
theorem owns_block {w : World} {base : Nat} {e : TypeId} {size : Nat} {v : Value} {n : Nat} {xs : List Value} (h : w.ownsRow base e size v n xs) {k : Nat} (hk : v.ownBlock = some k) : base ≤ k ∧ k < w.heap.size ∧ ∃ cur, Bk w k e cur := by
  rcases h.2 with ⟨rfl, _⟩ | ⟨g, cap, cur, rfl, hg, hh, r⟩
  · simp [Value.ownBlock] at hk
  · simp [Value.ownBlock] at hk
    subst hk
    exact ⟨hg, Bk.lt hh, cur, hh⟩
theorem Rw.ne_bk {w : World} {g k : Nat} {t t' : TypeId} {xs : List Value} {cs : Array Value} (h : Rw w g t xs) (h' : Bk w k t' cs) (hne : t ≠ t') : g ≠ k := by
  obtain ⟨c, hb, _⟩ := h
  exact hb.ne_ h' hne

namespace Dk
variable {w w' : World} {B : Nat} {I : Ids} {S : Dsk}
theorem foot_lt (h : Dk w B I S) {k : Nat} (hk : I.foot k) : B ≤ k ∧ k < w.heap.size := by
  rcases hk with rfl | rfl | rfl | hk
  · exact ⟨h.bg, h.box.lt⟩
  · exact ⟨h.bf, h.firm.lt⟩
  · exact ⟨h.bn, h.now.lt⟩
  · exact ⟨(owns_block h.pend hk).1, (owns_block h.pend hk).2.1⟩
theorem of_same (h : Dk w B I S) (hb : ∀ k, I.foot k → w'.heap[k]? = w.heap[k]?) : Dk w' B I S :=
  ⟨(hb _ (.inl rfl)).trans h.box, h.firm.of_block (hb _ (.inr (.inl rfl))), h.now.of_block (hb _ (.inr (.inr (.inl rfl)))), owns_of_block h.pend (fun k hk => hb k (.inr (.inr (.inr hk)))), h.ne, h.bg, h.bf, h.bn, h.ok⟩
theorem kept (h : Dk w B I S) (hb : Below w.heap.size w w') : Dk w' B I S := h.of_same fun k hk => hb.block k (h.foot_lt hk).2
theorem out {p : Nat → Prop} (h : Dk w B I S) (hb : Out w w' p) (hn : ∀ k, I.foot k → ¬ p k) : Dk w' B I S := h.of_same fun k hk => hb.block k (h.foot_lt hk).2 (hn k hk)
theorem gf (h : Dk w B I S) : I.f ≠ I.g := h.firm.ne_bk h.box (by decide)
theorem gn (h : Dk w B I S) : I.n ≠ I.g := h.now.ne_bk h.box (by decide)
theorem pg (h : Dk w B I S) {k : Nat} (hk : I.p.ownBlock = some k) : k ≠ I.g ∧ k ≠ I.f ∧ k ≠ I.n := by
  obtain ⟨_, _, cur, hc⟩ := owns_block h.pend hk
  exact ⟨hc.ne_ h.box (by decide), fun e => h.firm.ne_bk hc (by decide) e.symm, fun e => h.now.ne_bk hc (by decide) e.symm⟩
theorem cells (h : Dk w B I S) : w.cell? ⟨I.g, 0, none⟩ = some (.slice (some ⟨I.f, 0, none⟩) S.firm.length I.fc) ∧ w.cell? ⟨I.g, 1, none⟩ = some (.slice (some ⟨I.n, 0, none⟩) S.now.length I.nc) ∧ w.cell? ⟨I.g, 2, none⟩ = some I.p ∧ w.cell? ⟨I.g, 3, none⟩ = some (.int .i64 S.fuel) ∧ w.cell? ⟨I.g, 4, none⟩ = some (.bool S.down) :=
  ⟨h.box.cell 0, h.box.cell 1, h.box.cell 2, h.box.cell 3, h.box.cell 4⟩
/-- The pending slice, as a value. -/
theorem pval (h : Dk w B I S) : ∃ a c, I.p = .slice a S.pend.length c := by
  rcases h.pend.2 with ⟨e, e2⟩ | ⟨g, cap, cur, e, _⟩
  · exact ⟨none, 0, by rw [e, e2]⟩
  · exact ⟨_, _, e⟩
/-- Fuel or down anew. -/
theorem setFuel (h : Dk w B I S) (n : Int) (h0 : -1 ≤ n) (h1 : n ≤ 9223372036854775807) : Dk (w.setCell ⟨I.g, 3, none⟩ (.int .i64 n)) B I { S with fuel := n } :=
  ⟨h.box.set 3 _, h.firm.far h.gf _, h.now.far h.gn _, owns_of_block h.pend (fun k hk => Below.heap_setCell w _ _ k (h.pg hk).1), h.ne, h.bg, h.bf, h.bn, ⟨h.ok.len, h.ok.one, h.ok.most, h.ok.pend, h0, h1, h.ok.sizes, h.ok.fsizes, h.ok.psizes⟩⟩
theorem setDown (h : Dk w B I S) : Dk (w.setCell ⟨I.g, 4, none⟩ (.bool true)) B I { S with down := true } :=
  ⟨h.box.set 4 _, h.firm.far h.gf _, h.now.far h.gn _, owns_of_block h.pend (fun k hk => Below.heap_setCell w _ _ k (h.pg hk).1), h.ne, h.bg, h.bf, h.bn, ⟨h.ok.len, h.ok.one, h.ok.most, h.ok.pend, h.ok.lo, h.ok.hi, h.ok.sizes, h.ok.fsizes, h.ok.psizes⟩⟩
end Dk

theorem size_any {w : World} {B : Nat} {I : Ids} {S : Dsk} (h : Dk w B I S) :
    Calls Try.prog 43 #[I.ptr] w fun e w' => e = .returned (.int .i64 S.firm.length) ∧ w' = w := by
  obtain ⟨c0, c1, c2, c3, c4⟩ := h.cells
  rw [← h.ok.len]
  clear h
  unfold Ids.ptr
  go_enter Try.func43, Try.ntmps43
  go_wp2
  go_ret
  exact ⟨rfl, rfl⟩
theorem size_none (w : World) :
    Calls Try.prog 43 #[.pointer none] w fun e w' => e = .returned (.int .i64 0) ∧ w' = w := by
  go_enter Try.func43, Try.ntmps43
  go_wp2
  go_ret
  exact ⟨rfl, rfl⟩
theorem fuel_none (n : Int) (w : World) :
    Calls Try.prog 11 #[.pointer none, .int .i64 n] w fun e w' => e = .returned (.tuple #[]) ∧ w' = w := by
  go_enter Try.func11, Try.ntmps11
  go_wp2
  (try simp only [Exit.inBlock, Exit.then])
  refine bodyPost_ret (results_none rfl _ _ _) rfl ?_
  exact ⟨rfl, rfl⟩
theorem fuel_any {w : World} {B : Nat} {I : Ids} {S : Dsk} (h : Dk w B I S) (n : Int) (hn : n ≤ 9223372036854775807) :
    Calls Try.prog 11 #[I.ptr, .int .i64 n] w fun e w' => e = .returned (.tuple #[]) ∧ Dk w' B I { S with fuel := if n < 0 then -1 else n } ∧ Out w w' I.foot := by
  obtain ⟨c0, c1, c2, c3, c4⟩ := h.cells
  have f3 := h.box.fz 3
  by_cases h0 : n < 0
  · rw [if_pos h0]
    have hd := h.setFuel (-1) (by omega) (by omega)
    have ho : Out w (w.setCell ⟨I.g, 3, none⟩ (.int .i64 (-1))) I.foot := (Out.refl w _).set (fun _ => .inl rfl) _
    have HD := Lib.hid hd; have HO := Lib.hid ho
    clear h hd ho
    unfold Ids.ptr
    go_enter Try.func11, Try.ntmps11
    go_wp2
    go_end0
    exact ⟨rfl, HD.out, HO.out⟩
  · rw [if_neg h0]
    have hd := h.setFuel n (by omega) hn
    have ho : Out w (w.setCell ⟨I.g, 3, none⟩ (.int .i64 n)) I.foot := (Out.refl w _).set (fun _ => .inl rfl) _
    have HD := Lib.hid hd; have HO := Lib.hid ho
    clear h hd ho
    unfold Ids.ptr
    go_enter Try.func11, Try.ntmps11
    go_wp2
    go_end0
    exact ⟨rfl, HD.out, HO.out⟩

theorem has_any {w : World} {B : Nat} {I : Ids} {S : Dsk} (h : Dk w B I S) (i : Int) :
    Calls Try.prog 41 #[I.ptr, .int .i64 i] w fun e w' => e = .returned (.bool (decide (0 ≤ i ∧ i < S.firm.length))) ∧ w' = w := by
  obtain ⟨c0, c1, c2, c3, c4⟩ := h.cells
  rw [h.ok.len] at c1
  clear h
  unfold Ids.ptr
  go_enter Try.func41, Try.ntmps41
  by_cases h0 : 0 ≤ i
  · by_cases h1 : i < S.firm.length
    · rw [decide_eq_true ⟨h0, h1⟩]
      go_wp2
      go_ret
      exact ⟨rfl, rfl⟩
    · rw [decide_eq_false (by omega)]
      go_wp2
      go_ret
      exact ⟨rfl, rfl⟩
  · rw [decide_eq_false (by omega)]
    go_wp2
    go_ret
    exact ⟨rfl, rfl⟩

def Dsk.burnt (S : Dsk) : Dsk := { S with fuel := if 0 < S.fuel then S.fuel - 1 else S.fuel }
theorem burn_out {w : World} {B : Nat} {I : Ids} {S : Dsk} (h : Dk w B I S) (h0 : S.fuel = 0) :
    Calls Try.prog 44 #[I.ptr] w fun e w' => e = .returned (.int .i64 20) ∧ Dk w' B I { S with down := true } ∧ Out w w' I.foot := by
  obtain ⟨c0, c1, c2, c3, c4⟩ := h.cells
  rw [h0] at c3
  have f4 := h.box.fz 4
  have hd := h.setDown
  have ho : Out w (w.setCell ⟨I.g, 4, none⟩ (.bool true)) I.foot := (Out.refl w _).set (fun _ => .inl rfl) _
  have HD := Lib.hid hd; have HO := Lib.hid ho
  clear h hd ho
  unfold Ids.ptr
  go_enter Try.func44, Try.ntmps44
  go_wp2
  go_ret
  exact ⟨rfl, HD.out, HO.out⟩
theorem burn_on {w : World} {B : Nat} {I : Ids} {S : Dsk} (h : Dk w B I S) (h0 : S.fuel ≠ 0) :
    Calls Try.prog 44 #[I.ptr] w fun e w' => e = .returned (.int .i64 0) ∧ Dk w' B I S.burnt ∧ Out w w' I.foot := by
  obtain ⟨c0, c1, c2, c3, c4⟩ := h.cells
  have f3 := h.box.fz 3
  have lo := h.ok.lo; have hi := h.ok.hi
  have t0 : (S.fuel == 0) = false := by simpa using h0
  unfold Dsk.burnt
  by_cases hp : 0 < S.fuel
  · rw [if_pos hp]
    have hd := h.setFuel (S.fuel - 1) (by omega) (by omega)
    have ho : Out w (w.setCell ⟨I.g, 3, none⟩ (.int .i64 (S.fuel - 1))) I.foot := (Out.refl w _).set (fun _ => .inl rfl) _
    have HD := Lib.hid hd; have HO := Lib.hid ho
    clear h hd ho
    unfold Ids.ptr
    go_enter Try.func44, Try.ntmps44
    go_wp2
    go_ret
    exact ⟨rfl, HD.out, HO.out⟩
  · rw [if_neg hp]
    have HD := Lib.hid h
    clear h
    unfold Ids.ptr
    go_enter Try.func44, Try.ntmps44
    go_wp2
    go_ret
    exact ⟨rfl, HD.out, Out.refl _ _⟩
end Go.Proofs.Ytplcddcdhnjfeaa
