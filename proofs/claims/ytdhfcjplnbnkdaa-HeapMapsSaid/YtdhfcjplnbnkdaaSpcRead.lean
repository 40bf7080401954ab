/- The directory and the map, read. -/
import Derived.Test.YtdhfcjplnbnkdaaSpcBit
import Derived.Test.YtdhfcjplnbnkdaaStgV
set_option linter.unusedVariables false
set_option linter.unusedSimpArgs false
namespace Go.Proofs.Ytdhfcjplnbnkdaa
open Go.RowKit

section
variable {ops : Array Oper} {rest : List Oper} {o : Oper} {a : Act} {w : World} {Q : Exit → Act → World → Prop}
theorem cells_range {w : World} {g : Nat} {p : Pg} (h : Bk w g 40 p.cs) : w.rangeAt g 4 (cs6 p.c).toList := fun j v hv => by
  have hj : j < 12 := (List.getElem?_eq_some_iff.1 hv).1
  rw [h.cell]
  have : p.cs[4 + j]? = (cs6 p.c)[j]? := by
    unfold Pg.cs cs6
    have : j = 0 ∨ j = 1 ∨ j = 2 ∨ j = 3 ∨ j = 4 ∨ j = 5 ∨ j = 6 ∨ j = 7 ∨ j = 8 ∨ j = 9 ∨ j = 10 ∨ j = 11 := by omega
    rcases this with h | h | h | h | h | h | h | h | h | h | h | h <;> subst h <;> rfl
  rw [this]
  simpa using hv
theorem load_cells (hgd : o.guard = none) (x : Operand) (ho : o.op = .load 38 x) (g : Nat) (p : Pg) (hx : a.eval x = .pointer (some ⟨g, 4, none⟩)) (hb : Bk w g 40 p.cs)
    (h : wpList Try.prog ops Q rest (a.put o.dst (.agg (cs6 p.c))) w) : wpList Try.prog ops Q (o :: rest) a w :=
  wpList_load_mid hgd 38 x ho g 4 hx (cs6 p.c).toList _ (cells_range hb) Try.underlying38 rfl (by show _ = some 12; kernel_rfl) (by simpa using h)
theorem index_cells (hgd : o.guard = none) (x y : Operand) (ho : o.op = .index 38 x y) (c : Nat → Ce) (j : Nat) (hj : j < 6) (hx : a.eval x = .agg (cs6 c)) (hy : a.eval y = .int .i64 j)
    (h : wpList Try.prog ops Q rest (a.put o.dst (.agg #[.int .i64 (c j).st, .string (c j).d])) w) : wpList Try.prog ops Q (o :: rest) a w := by
  refine wpList_plain hgd fun K' hK' => ?_
  have hi := idx6 c j hj w
  unfold Oper.wp execOp
  unfold cs6 at hx
  simp only [ho, hx, hy, Sem.run_bind, Sem.run_pure, Result.andThen_ok, hi]
  exact hK' _ _ h
end
set_option maxRecDepth 100000 in
set_option maxHeartbeats 4000000 in
theorem chart_good {w : World} {B g b gs r N M : Nat} {und pg : Nat → Pg} (h : SV w B g b gs r N M und pg) (h2 : 2 ≤ N) (hc : Ch (pg 1)) :
    Calls Try.prog 45 #[.pointer (some ⟨g, 0, none⟩)] w (PgPost (pg 1, 0) w) := by
  have H0 := Lib.hid (h.alloc (.cells Pg.zero.cs 40))
  have Z := Lib.hid (Bk.new w 40 Pg.zero.cs)
  have B0 := Lib.hid ((Below.refl w.heap.size w).alloc (Nat.le_refl _) (.cells Pg.zero.cs 40))
  have CG := sv_get H0.out 1 (by omega)
  rw [show ((1 : Nat) : Int) = 1 from rfl] at CG
  have CG := Lib.hid CG
  obtain ⟨p, hp⟩ : ∃ p, p = pg 1 := ⟨_, rfl⟩
  rw [← hp] at CG hc ⊢
  have C2 := hc.1
  have C34 := Lib.hid hc.2
  clear h hc hp
  go_enter Try.func45, Try.ntmps45
  go_upto_region 1 with fail
  change Code.wp _ _ _ _ (w.alloc (.cells Pg.zero.cs 40))
  generalize w.alloc (.cells Pg.zero.cs 40) = w0 at *
  obtain ⟨G, hG⟩ : ∃ G, G = w.heap.size := ⟨_, rfl⟩
  rw [← hG] at Z ⊢
  have GL := Lib.hid (show w.heap.size ≤ G from Nat.le_of_eq hG.symm)
  clear hG
  go_wp2_with fail
  refine CG.out.mono ?_
  rintro e w1 ⟨rfl, hb⟩
  have hbb := hb.alloc hb.size (.cells p.cs 40)
  have Z2 := Lib.hid (Z.out.kept hbb)
  have B2 := Lib.hid (below_then B0.out hbb B0.out.size)
  have K2 := Lib.hid (Bk.new w1 40 p.cs)
  obtain ⟨G4, hG4⟩ : ∃ G4, G4 = w1.heap.size := ⟨_, rfl⟩
  rw [← hG4] at K2
  have x0 : (w1.alloc (.cells p.cs 40)).cell? ⟨G4, 0, none⟩ = some (.int .i64 2) := by rw [K2.out.cell]; show some (Value.int .i64 p.k) = _; rw [C2]
  clear hb hbb CG Z B0 H0
  dsimp only
  go_upto_region 4 with (refine store_page_new rfl _ _ rfl p rfl rfl ?_; rw [← hG4]; clear hG4; generalize w1.alloc (.cells p.cs 40) = w2 at *)
  go_wp2_with (refine load_cells rfl _ rfl G4 p rfl K2.out ?_)
  go_loopw [23] (fun i wr => ∃ j : Nat, j ≤ 6 ∧ i = .int .i64 j ∧ Bk wr G 40 Pg.zero.cs ∧ Bk wr G4 40 p.cs ∧ Below w.heap.size w wr) (fun i _ => 6 - (intOf i).toNat)
  case atStart => exact ⟨0, Nat.zero_le _, rfl, Z2.out, K2.out, B2.out⟩
  case round =>
    obtain ⟨j, hj, rfl, hz, hk, hb⟩ := hrel
    have Z3 := Lib.hid hz; have K3 := Lib.hid hk; have B3 := Lib.hid hb
    clear hz hk hb Z2 K2 B2 x0
    by_cases hlt : j < 6
    · have HLT := Lib.hid hlt
      have hs := C34.out j hlt
      have Z4 := Lib.hid (fun o => Z3.out.alloc o)
      have K4 := Lib.hid (fun o => K3.out.alloc o)
      have B4 := Lib.hid (fun o => B3.out.alloc B3.out.size o)
      generalize hcj : p.c j = cj at *
      have ix := hcj
      go_wp2_with (refine index_cells rfl _ _ rfl p.c j HLT.out rfl rfl ?_; rw [hcj])
      go_roundw
      case rel => exact ⟨j + 1, by have := HLT.out; omega, by go_num, Z4.out _, K4.out _, B4.out _⟩
      case measure => have := HLT.out; simp [intOf]; omega
    · have hjn : j = 6 := by omega
      clear hj
      go_wp2_with (first | (refine load_page rfl _ rfl G4 p rfl K3.out ?_) | (refine store_page rfl _ _ rfl G p Pg.zero rfl rfl Z3.out ?_))
      refine bodyPost_ret (page_res rfl _ _ G p.cs (row_bk Z3.out) rfl rfl) rfl ?_
      exact ⟨rfl, below_row B3.out GL.out⟩
end Go.Proofs.Ytdhfcjplnbnkdaa
