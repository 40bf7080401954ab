/- A log in memory. -/
import Derived.Test.YtgafajbdmegfgaaGreatWalPlain
import Derived.Test.YtgafajbdmegfgaaGreatOctNum
import Derived.Test.YtgafajbdmegfgaaGreatShelf
import Derived.Test.YtgafajbdmegfgaaGreatApp1
import Derived.Deep.RegionHeld3
set_option linter.unusedVariables false
set_option linter.unusedSimpArgs false
namespace Go.Proofs.YtgafajbdmegfgaaGreat
open Go.RowKit

/-- Where a log lies. -/
structure Wd where
  g : Nat
  d : Ids
  dv : Value
  pv : Value
def Wd.box (I : Wd) (L : Lg) : Array Value := #[I.d.ptr, .int .i64 L.first, .int .i64 L.n, .int .i64 L.start, .int .i64 L.fin, .int .i64 L.firm, I.dv, I.pv]
def Wd.ptr (I : Wd) : Value := .pointer (some ⟨I.g, 0, none⟩)
def ints (l : List Nat) : List Value := l.map fun k : Nat => .int .i64 (k : Int)
structure Wl (w : World) (B : Nat) (I : Wd) (L : Lg) (S : Dsk) : Prop where
  box : Bk w I.g 71 (I.box L)
  bg : B ≤ I.g
  dsk : Dk w B I.d S
  dat : w.ownsRow B 5 1 I.dv L.data.size (Lib.strCells L.data)
  plc : w.ownsRow B 3 1 I.pv L.places.length (ints L.places)
  ok : L.ok
/-- A device, while a row of another type grows. -/
theorem Dk.grown {w w' : World} {B : Nat} {I : Ids} {S : Dsk} (h : Dk w B I S) {row : Option Nat} (hg : w.grownBy w' row) (hr : ∀ k, row = some k → ∃ t cur, Bk w k t cur ∧ t ≠ 78 ∧ t ≠ 9 ∧ t ≠ 93) : Dk w' B I S := by
  refine h.of_same fun k hk => hg.block k (h.foot_lt hk).2 ?_
  intro e
  obtain ⟨t, cur, hb, n1, n2, n3⟩ := hr k e.symm
  rcases hk with rfl | rfl | rfl | hk
  · exact Bk.ne_ hb h.box n1 rfl
  · exact h.firm.ne_bk hb (Ne.symm n2) rfl
  · exact h.now.ne_bk hb (Ne.symm n2) rfl
  · obtain ⟨_, _, c, hc⟩ := owns_block h.pend hk
    exact Bk.ne_ hb hc n3 rfl
/-- A row of one's own, while a row of another type grows. -/
theorem own_grown {w w' : World} {B : Nat} {e e' : TypeId} {size : Nat} {v : Value} {n : Nat} {xs : List Value} (h : w.ownsRow B e size v n xs) {row : Option Nat} (hg : w.grownBy w' row) (hr : ∀ k, row = some k → ∃ cur, Bk w k e' cur) (hne : e ≠ e') : w'.ownsRow B e size v n xs := by
  refine owns_of_block h fun k hk => hg.block k (owns_block h hk).2.1 ?_
  intro e1
  obtain ⟨cur', hb⟩ := hr k e1.symm
  obtain ⟨_, _, c, hc⟩ := owns_block h hk
  exact Bk.ne_ hc hb hne rfl
theorem own_kept {w w' : World} {B : Nat} {e : TypeId} {size : Nat} {v : Value} {n : Nat} {xs : List Value} (h : w.ownsRow B e size v n xs) (hb : Below w.heap.size w w') : w'.ownsRow B e size v n xs :=
  owns_of_block h fun k hk => hb.block k (owns_block h hk).2.1
theorem own_far {w : World} {B : Nat} {e e' : TypeId} {size : Nat} {v : Value} {n : Nat} {xs : List Value} (h : w.ownsRow B e size v n xs) {p : Addr} {cs : Array Value} (hp : Bk w p.block e' cs) (hne : e ≠ e') (u : Value) : (w.setCell p u).ownsRow B e size v n xs :=
  owns_of_block h fun k hk => Below.heap_setCell w p u k (by obtain ⟨_, _, c, hc⟩ := owns_block h hk; exact Bk.ne_ hc hp hne)
theorem tx_slice {w : World} {base : Nat} {e : TypeId} {size : Nat} {v : Value} {n : Nat} {xs : List Value} (h : w.ownsRow base e size v n xs) : ∃ a c, v = .slice a n c := by
  rcases h.2 with ⟨rfl, rfl⟩ | ⟨g, cap, cur, rfl, _⟩
  · exact ⟨none, 0, rfl⟩
  · exact ⟨_, _, rfl⟩
/-- A device, while a cell of another block is set. -/
theorem Dk.far {w : World} {B : Nat} {I : Ids} {S : Dsk} (h : Dk w B I S) {p : Addr} {t : TypeId} {cs : Array Value} (hp : Bk w p.block t cs) (n1 : t ≠ 78) (n2 : t ≠ 9) (n3 : t ≠ 93) (u : Value) : Dk (w.setCell p u) B I S := by
  refine h.of_same fun k hk => Below.heap_setCell w p u k ?_
  rintro rfl
  rcases hk with hk | hk | hk | hk
  · rw [hk] at hp; exact Bk.ne_ hp h.box n1 rfl
  · rw [hk] at hp; exact h.firm.ne_bk hp (Ne.symm n2) rfl
  · rw [hk] at hp; exact h.now.ne_bk hp (Ne.symm n2) rfl
  · obtain ⟨_, _, c, hc⟩ := owns_block h.pend hk
    exact Bk.ne_ hp hc n3 rfl
theorem bk_grown {w w' : World} {B : Nat} {e e' : TypeId} {size n : Nat} {v : Value} {xs : List Value} {g : Nat} {cs : Array Value} (h : Bk w g e cs) (ho : w.ownsRow B e' size v n xs) (hg : w.grownBy w' v.ownBlock) (hne : e ≠ e') : Bk w' g e cs :=
  h.grown hg (fun h0 => by obtain ⟨_, _, cur, hc⟩ := owns_block ho h0.symm; exact Bk.ne_ h hc hne rfl)
theorem dk_grown {w w' : World} {B B' : Nat} {e' : TypeId} {size n : Nat} {v : Value} {xs : List Value} {I : Ids} {S : Dsk} (h : Dk w B I S) (ho : w.ownsRow B' e' size v n xs) (hg : w.grownBy w' v.ownBlock) (n1 : e' ≠ 78) (n2 : e' ≠ 9) (n3 : e' ≠ 93) : Dk w' B I S :=
  h.grown hg fun k hk => by obtain ⟨_, _, cur, hc⟩ := owns_block ho hk; exact ⟨_, cur, hc, n1, n2, n3⟩
theorem own_grown' {w w' : World} {B B' : Nat} {e e' : TypeId} {size size' n n' : Nat} {v v' : Value} {xs xs' : List Value} (h : w.ownsRow B e size v n xs) (ho : w.ownsRow B' e' size' v' n' xs') (hg : w.grownBy w' v'.ownBlock) (hne : e ≠ e') : w'.ownsRow B e size v n xs :=
  own_grown h hg (fun k hk => (owns_block ho hk).2.2) hne
namespace Wl
variable {w w' : World} {B : Nat} {I : Wd} {L : Lg} {S : Dsk}
theorem cells (h : Wl w B I L S) : w.cell? ⟨I.g, 0, none⟩ = some I.d.ptr ∧ w.cell? ⟨I.g, 1, none⟩ = some (.int .i64 L.first) ∧ w.cell? ⟨I.g, 2, none⟩ = some (.int .i64 L.n) ∧ w.cell? ⟨I.g, 3, none⟩ = some (.int .i64 L.start) ∧ w.cell? ⟨I.g, 4, none⟩ = some (.int .i64 L.fin) ∧ w.cell? ⟨I.g, 5, none⟩ = some (.int .i64 L.firm) ∧ w.cell? ⟨I.g, 6, none⟩ = some I.dv ∧ w.cell? ⟨I.g, 7, none⟩ = some I.pv :=
  ⟨h.box.cell 0, h.box.cell 1, h.box.cell 2, h.box.cell 3, h.box.cell 4, h.box.cell 5, h.box.cell 6, h.box.cell 7⟩
theorem kept (h : Wl w B I L S) (hb : Below w.heap.size w w') : Wl w' B I L S :=
  ⟨h.box.kept hb, h.bg, h.dsk.kept hb, own_kept h.dat hb, own_kept h.plc hb, h.ok⟩
theorem dn (h : Wl w B I L S) {k : Nat} (hk : I.d.foot k) : k ≠ I.g := by
  rcases hk with rfl | rfl | rfl | hk
  · exact Bk.ne_ h.dsk.box h.box (by decide)
  · exact h.dsk.firm.ne_bk h.box (by decide)
  · exact h.dsk.now.ne_bk h.box (by decide)
  · obtain ⟨_, _, c, hc⟩ := owns_block h.dsk.pend hk
    exact Bk.ne_ hc h.box (by decide)
/-- The device goes on by itself. -/
theorem disk (h : Wl w B I L S) {p' : Value} {S' : Dsk} (hd : Dk w' B (I.d.with p') S') (ho : Out w w' I.d.foot) : Wl w' B { I with d := I.d.with p' } L S' := by
  have ne : ∀ {t : TypeId} {k : Nat} {c : Array Value}, Bk w k t c → t ≠ 78 → t ≠ 9 → t ≠ 93 → ¬ I.d.foot k := by
    intro t k c hb n1 n2 n3 hk
    rcases hk with rfl | rfl | rfl | hk
    · exact Bk.ne_ hb h.dsk.box n1 rfl
    · exact h.dsk.firm.ne_bk hb (Ne.symm n2) rfl
    · exact h.dsk.now.ne_bk hb (Ne.symm n2) rfl
    · obtain ⟨_, _, c', hc⟩ := owns_block h.dsk.pend hk
      exact Bk.ne_ hb hc n3 rfl
  refine ⟨ho.bk h.box (ne h.box (by decide) (by decide) (by decide)), h.bg, hd, owns_of_block h.dat fun k hk => ?_, owns_of_block h.plc fun k hk => ?_, h.ok⟩
  · obtain ⟨_, lt, c, hc⟩ := owns_block h.dat hk
    exact ho.block k lt (ne hc (by decide) (by decide) (by decide))
  · obtain ⟨_, lt, c, hc⟩ := owns_block h.plc hk
    exact ho.block k lt (ne hc (by decide) (by decide) (by decide))
end Wl

theorem floor_any (a : Nat) (w : World) (h : a ≤ 9223372036854775807) :
    Calls Tryz.prog 52 #[.int .i64 a] w fun e w' => e = .returned (.int .i64 (flr a : Nat)) ∧ w' = w := by
  have e : (a : Int).tmod 54 = ((a % 54 : Nat) : Int) := by rw [Int.tmod_eq_emod_of_nonneg (by omega)]; simp
  have F := Lib.hid (show ((flr a : Nat) : Int) = (a : Int) - (a : Int) % 54 by unfold flr; omega)
  go_enter Tryz.func52, Tryz.ntmps52
  go_wp2
  go_ret
  exact ⟨by rw [F.out]; rfl, rfl⟩
theorem wzeros_any (n : Nat) (w : World) (h : n ≤ 64) :
    Calls Tryz.prog 46 #[.string ⟨#[0]⟩, .int .i64 n] w fun e w' => e = .returned (.string (Fr.zs n)) ∧ Below w.heap.size w w' := by
  have c := Tryz.strings_Repeat ⟨#[0]⟩ n w (by omega) (by show 1 * n ≤ _; omega)
  rw [repeat_zs] at c
  exact c
theorem wblank_any (w : World) :
    Calls Tryz.prog 22 #[] w fun e w' => e = .returned (.string (Fr.zs 64)) ∧ Below w.heap.size w w' := by
  have C := Lib.hid (wzeros_any 64 w (by omega))
  go_enter Tryz.func22, Tryz.ntmps22
  go_wp2_with fail
  refine C.out.mono ?_
  rintro e w1 ⟨rfl, hb⟩
  have HB := Lib.hid hb
  clear hb C
  go_wp2
  go_ret
  exact ⟨rfl, HB.out⟩
theorem wnumber_any (n width : Nat) (w : World) (h1 : 1 ≤ width) (h2 : width ≤ 8) (hn : n ≤ 9223372036854775807) (hz : n < 256 ^ width) :
    Calls Tryz.prog 30 #[.int .i64 n, .int .i64 width] w fun e w' => e = .returned (.string (Oct.str n width)) ∧ Below w.heap.size w w' := by
  have c := num_fits n width w h1 h2 (by omega) (Nat.div_eq_of_lt hz)
  have C := Lib.hid c
  clear c hz
  go_enter Tryz.func30, Tryz.ntmps30
  go_wp2_with fail
  refine C.out.mono ?_
  rintro e w1 ⟨rfl, hw⟩
  subst w1
  clear C
  go_wp2
  go_ret
  exact ⟨rfl, (Below.refl _ _).alloc (Nat.le_refl _) _⟩
theorem room_any {w : World} {B : Nat} {I : Wd} {L : Lg} {S : Dsk} (h : Wl w B I L S) :
    Calls Tryz.prog 29 #[I.ptr] w fun e w' => e = .returned (.int .i64 L.room) ∧ ∃ n, w' = w.drewN n := by
  obtain ⟨-, -, c2, c3, c4, -, -, -⟩ := h.cells
  have ok := h.ok
  have C := Lib.hid (fun w => floor_any L.start w (by have := ok.sf; have := ok.fe; have := ok.big; omega))
  have fl := flr_le L.start
  have n2 := ok.n2
  have b1 : L.fin ≤ 1152921504606846976 := ok.big
  have b2 : flr L.start ≤ L.fin := by have := ok.sf; have := ok.fe; omega
  have R := Lib.hid (show ((L.room : Nat) : Int) = 54 * (L.n : Int) - ((L.fin : Int) - ((flr L.start : Nat) : Int)) by have := ok.rm; unfold Lg.room; omega)
  generalize flr L.start = fs at *
  have W1 := Lib.hid (show IntKind.i64.wrap (54 * (L.n : Int)) = 54 * (L.n : Int) by rw [IntKind.wrap_i64]; omega)
  have W2 := Lib.hid (show IntKind.i64.wrap ((L.fin : Int) - (fs : Int)) = (L.fin : Int) - (fs : Int) by rw [IntKind.wrap_i64]; omega)
  have W3 := Lib.hid (show IntKind.i64.wrap (54 * (L.n : Int) - ((L.fin : Int) - (fs : Int))) = 54 * (L.n : Int) - ((L.fin : Int) - (fs : Int)) by rw [IntKind.wrap_i64]; omega)
  unfold Wd.ptr
  clear h ok
  go_enter Tryz.func29, Tryz.ntmps29
  go_wp2_with fail
  go_quiet ((go_at_call 52; exact Calls.quiet_of_same (C.out _)))
  go_wp2
  go_ret
  exact ⟨by first | (rw [R.out, W1.out, W2.out, W3.out]; rfl) | (rw [R.out]; rfl), _, rfl⟩
end Go.Proofs.YtgafajbdmegfgaaGreat
