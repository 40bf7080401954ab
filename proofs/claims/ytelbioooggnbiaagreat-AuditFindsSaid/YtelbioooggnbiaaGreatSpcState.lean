/- A volume formatted. The directory's cells. A store's cell: live, or a ghost. -/
import Derived.Test.YtelbioooggnbiaaGreatSpcGive
set_option linter.unusedVariables false
set_option linter.unusedSimpArgs false
namespace Go.Proofs.YtelbioooggnbiaaGreat
open Go.RowKit

def z34 : ByteArray := ⟨Array.replicate 34 0⟩
theorem z34_size : z34.size = 34 := by unfold z34 ByteArray.size; simp
theorem z34_bit (i : Nat) : bitOf z34 i = false := by
  unfold bitOf z34
  have : (Array.replicate 34 (0 : UInt8)).getD (i / 8) 0 = 0 := by
    rw [Array.getD_eq_getD_getElem?]
    by_cases h : i / 8 < 34
    · simp [h]
    · simp [h]
  rw [this]
  simp
def pgI (n : Int) (j : Nat) : Pg := ⟨2, 0, 0, n - 1, fun q => if q < j then ⟨1, z34⟩ else ⟨0, ⟨#[]⟩⟩⟩
def map0 (n : Int) : Pg := pgI n 6
def mapN (n : Int) : Pg := mrk (mrk (map0 n) 0 true) 1 true
def dir0 : Pg := ⟨1, 0, 0, 0, fun _ => ⟨0, ⟨#[]⟩⟩⟩
theorem dir0_ok : dir0.ok := ⟨by unfold Pg.head dir0; decide, fun i _ => .inl ⟨rfl, rfl⟩⟩
theorem map0_ok (n : Nat) (h1 : 4 ≤ n) (h2 : n ≤ 1024) : MapOk (map0 n) n := by
  refine ⟨⟨rfl, fun i hi => ?_⟩, ⟨?_, fun i hi => ?_⟩, rfl, h1, h2⟩
  · show (if i < 6 then (⟨1, z34⟩ : Ce) else _).d.size = 34
    rw [if_pos hi]; exact z34_size
  · unfold Pg.head map0 pgI; dsimp only; omega
  · show (if i < 6 then (⟨1, z34⟩ : Ce) else _).ok
    rw [if_pos hi]; exact .inr ⟨.inl rfl, by show z34.size ≤ 34; rw [z34_size]; omega⟩
theorem mapN_ok (n : Nat) (h1 : 4 ≤ n) (h2 : n ≤ 1024) : MapOk (mapN n) n := ((map0_ok n h1 h2).mrk 0 true).mrk 1 true
theorem mapN_own (n : Nat) (h1 : 4 ≤ n) (h2 : n ≤ 1024) (i : Nat) (hi : i < 1632) : ownB (mapN n) i = decide (i < 2) := by
  have m0 := map0_ok n h1 h2
  unfold mapN
  rw [mrk_own (m0.mrk 0 true).ch _ _ _ (by omega), mrk_own m0.ch _ _ _ (by omega)]
  have h0 : ownB (map0 n) i = false := by
    unfold ownB map0 pgI
    dsimp only
    rw [if_pos (by omega)]
    exact z34_bit _
  rw [h0]
  by_cases e1 : i = 1
  · subst e1; rfl
  · rw [if_neg e1]
    by_cases e0 : i = 0
    · subst e0; rfl
    · rw [if_neg e0]; symm; exact decide_eq_false (by omega)
theorem byt_new (w : World) : Byt (w.alloc (.cells (madeCells #[.int .u8 0] (34 * 1)) 5)) w.heap.size z34 := by
  refine ⟨_, 0, 0, heap_alloc_new w _, .inr rfl, fun j hj => ?_⟩
  rw [z34_size] at hj
  have : j < 34 := hj
  simp [madeCells, z34, this, Array.getD_eq_getD_getElem?, Nat.mod_one]
theorem cellRow (p : Pg) (n : Int) (j : Nat) (hj : j < 6) (h : p = pgI n j) {w : World} {G : Nat} (hk : Bk w G 38 p.cs) : Bk (w.setCells G (4 + j * 2) [.int .i64 1, .string z34]) G 38 (pgI n (j + 1)).cs := by
  have := Bk.lays [.int .i64 1, .string z34] w p.cs (4 + j * 2) hk
  have e : lay p.cs (4 + j * 2) [.int .i64 1, .string z34] = (pgI n (j + 1)).cs := by
    subst h
    unfold pgI Pg.cs
    rcases six hj with h | h | h | h | h | h <;> subst h <;> rfl
  rw [e] at this
  exact this
theorem cell_there {w : World} {G : Nat} {p : Pg} (hk : Bk w G 38 p.cs) (j : Nat) (hj : j < 6) : w.there G (4 + j * 2) 2 := fun q hq => by
  refine ⟨?_, Bk.fz hk _⟩
  rw [Bk.cell hk, Array.getElem?_eq_getElem (show 4 + j * 2 + q < p.cs.size from by show _ < 16; omega)]
  rfl
section
variable {ops : Array Oper} {rest : List Oper} {o : Oper} {a : Act} {w : World} {Q : Exit → Act → World → Prop}
theorem store_cell_at (hgd : o.guard = none) (x y : Operand) (ho : o.op = .store 35 x y) (G : Nat) (p : Pg) (j : Nat) (hj : j < 6) (st : Int) (d : ByteArray) (hx : a.eval x = .pointer (some ⟨G, 4 + j * 2, none⟩)) (hy : a.eval y = .agg #[.int .i64 st, .string d]) (hk : Bk w G 38 p.cs)
    (h : wpList Tryz.prog ops Q rest (a.put o.dst undef) (w.setCells G (4 + j * 2) [.int .i64 st, .string d])) : wpList Tryz.prog ops Q (o :: rest) a w :=
  wpList_store_mid hgd 35 x y ho G (4 + j * 2) #[.int .i64 st, .string d] hx hy (cell_there hk j hj) (by show _ = some 2; kernel_rfl) (by simp [Value.oneCell']) h
theorem build_kn (hg : o.guard = none) (x : Operand) (ho : o.op = .build 38 #[(0, .const (.int .i64 2)), (3, x)]) (n : Int) (hx : a.eval x = .int .i64 (n - 1)) (h : wpList Tryz.prog ops Q rest (a.put o.dst (.agg (pgI n 0).cs)) w) : wpList Tryz.prog ops Q (o :: rest) a w := by
  refine wpList_plain hg fun K' hK' => ?_
  have hb : (Instr.build 38 #[(0, .int .i64 2), (3, .int .i64 (n - 1))]).run Tryz.prog w = .ok (.agg (pgI n 0).cs) w := by kernel_rfl
  unfold Oper.wp execOp
  simp only [ho, Sem.run_bind, Sem.run_pure, Result.andThen_ok, List.map_toArray, List.map_cons, List.map_nil, hx]
  have hc : a.eval (.const (.int .i64 2)) = .int .i64 2 := rfl
  simp only [hc, hb, Result.andThen_ok]
  exact hK' _ _ h
theorem build_dir (hg : o.guard = none) (ho : o.op = .build 38 #[(0, .const (.int .i64 1))]) (h : wpList Tryz.prog ops Q rest (a.put o.dst (.agg dir0.cs)) w) : wpList Tryz.prog ops Q (o :: rest) a w := by
  refine wpList_plain hg fun K' hK' => ?_
  have hb : (Instr.build 38 #[(0, .int .i64 1)]).run Tryz.prog w = .ok (.agg dir0.cs) w := by kernel_rfl
  unfold Oper.wp execOp
  have hc : a.eval (.const (.int .i64 1)) = .int .i64 1 := rfl
  simp only [ho, Sem.run_bind, Sem.run_pure, Result.andThen_ok, List.map_toArray, List.map_cons, List.map_nil, hc, hb]
  exact hK' _ _ h
end
theorem Tryz.info5 : (Tryz.prog.info? 5).map (fun i => (i.zero, i.size, i.bytes)) = some (some (.int .u8 0), 1, 1) := by kernel_rfl
set_option maxRecDepth 100000 in
set_option maxHeartbeats 4000000 in
theorem format_good {w : World} {B g b gs r N M : Nat} {und pg : Nat → Pg} (h : SV w B g b gs r N M und pg) (h2 : 2 ≤ N) (n : Nat) (hn1 : 4 ≤ n) (hn2 : n ≤ 1024) (hM : M + 1 < maxLen) :
    Calls Tryz.prog 18 #[.pointer (some ⟨g, 0, none⟩), .int .i64 n] w fun e w' => e = .returned (.int .i64 0) ∧ SV w' B g b gs r N (M + 2) und (upd (upd pg 0 dir0) 1 (mapN n)) ∧ w.grownBy w' (some b) := by
  obtain ⟨i0, hi, hz0, hz1, hz2⟩ := info_parts Tryz.info5
  have hmk := fun wx => run_make (P := Tryz.prog) wx 95 5 i0 (.int .u8 0) Tryz.underlying95 hi hz0 .i64 .i64 (34 : Int) (34 : Int) (by omega) (by omega) (by rw [hz2]; omega) (by omega)
  simp only [hz1, Value.cells] at hmk
  have H := Lib.hid h
  have M0 := Lib.hid (map0_ok n hn1 hn2)
  have CS0 := Lib.hid (fun (w' : World) (hs : SV w' B g b gs r N M und pg) => (show Calls Tryz.prog 16 #[.pointer (some ⟨g, 0, none⟩), .int .i64 0, .agg dir0.cs] w' _ from sv_set hs 0 (by omega) dir0 dir0_ok (by omega)))
  have CS1 := Lib.hid (fun (w' : World) (hs : SV w' B g b gs r N (M + 1) und (upd pg 0 dir0)) => (show Calls Tryz.prog 16 #[.pointer (some ⟨g, 0, none⟩), .int .i64 1, .agg (mapN n).cs] w' _ from sv_set hs 1 (by omega) (mapN n) (mapN_ok n hn1 hn2).ok hM))
  have CM0 := Lib.hid (fun (w' : World) => mark_any (map0 n) 0 true w' (by omega) (M0.out.ch.2 _ (by omega)))
  have CM1 := Lib.hid (fun (w' : World) => mark_any (mrk (map0 n) 0 true) 1 true w' (by omega) ((M0.out.mrk 0 true).ch.2 _ (by omega)))
  rw [show ((0 : Nat) : Int) = 0 from rfl] at CM0
  rw [show ((1 : Nat) : Int) = 1 from rfl] at CM1
  have a1 : ¬ (n : Int) < 4 := by omega
  have a2 : ¬ (1024 : Int) < (n : Int) := by omega
  have hB0 := Lib.hid h.gs_ne
  clear h hM
  go_enter Tryz.func18, Tryz.ntmps18
  have H1 := Lib.hid (H.out.alloc (.cells (pgI n 0).cs 38))
  have K1 := Lib.hid (Bk.new w 38 (pgI n 0).cs)
  have B1 := Lib.hid ((Below.refl w.heap.size w).alloc (Nat.le_refl _) (.cells (pgI n 0).cs 38))
  obtain ⟨G, hG⟩ : ∃ G, G = w.heap.size := ⟨_, rfl⟩
  rw [← hG] at K1
  have GL := Lib.hid (show w.heap.size ≤ G from Nat.le_of_eq hG.symm)
  go_upto_region 4 with (first | (refine build_kn rfl _ rfl (n : Int) rfl ?_) | (refine store_page_new rfl _ _ rfl (pgI n 0) rfl rfl ?_; rw [← hG]; clear hG; generalize w.alloc (.cells (pgI n 0).cs 38) = w1 at *))
  go_wp2_with fail
  go_loopw [21] (fun i wr => ∃ j : Nat, j ≤ 6 ∧ i = .int .i64 j ∧ SV wr B g b gs r N M und pg ∧ Bk wr G 38 (pgI n j).cs ∧ Below w.heap.size w wr) (fun i _ => 6 - (RowKit.intOf i).toNat)
  case atStart => exact ⟨0, Nat.zero_le _, rfl, H1.out, K1.out, B1.out⟩
  case round =>
    obtain ⟨j, hj, rfl, hs, hk, hb⟩ := hrel
    have H2 := Lib.hid hs; have K2 := Lib.hid hk; have B2 := Lib.hid hb
    clear hs hk hb H1 K1 B1
    by_cases hlt : j < 6
    · have HLT := Lib.hid hlt
      have Y := Lib.hid (byt_new wr)
      have hj6 : (j : Int) < 6 := by omega
      obtain ⟨p, hp⟩ : ∃ p, p = pgI n j := ⟨_, rfl⟩
      rw [← hp] at K2
      have HP := Lib.hid hp
      clear hp
      go_wp2_with (first
        | (refine conv_back rfl _ rfl wr.heap.size z34 34 34 (by rw [z34_size]) rfl Y.out ?_)
        | (refine store_cell_at rfl _ _ rfl G p j HLT.out 1 z34 rfl rfl (K2.out.alloc _) ?_))
      have NEG := Lib.hid (show G ≠ g ∧ G ≠ b ∧ G ≠ gs ∧ G ≠ r by have := hB0.out; have := GL.out; omega)
      have HA := Lib.hid (H2.out.alloc (.cells (madeCells #[.int .u8 0] 34) 5))
      have KA := Lib.hid (K2.out.alloc (.cells (madeCells #[.int .u8 0] 34) 5))
      have BA := Lib.hid (B2.out.alloc B2.out.size (.cells (madeCells #[.int .u8 0] 34) 5))
      have hg := setCells_only (wr.alloc (.cells (madeCells #[.int .u8 0] 34) 5)) G (4 + j * 2) [.int .i64 1, .string z34]
      have HN := Lib.hid (HA.out.grown hg (fun k hk => by cases hk; exact NEG.out))
      have KN := Lib.hid (cellRow p n j HLT.out HP.out KA.out)
      have BN := Lib.hid (bl_grow BA.out hg (fun k hk => by cases hk; exact GL.out) BA.out.size)
      clear hg HA KA BA
      exact ⟨⟨j + 1, by have := HLT.out; omega, by go_num, HN.out, KN.out, BN.out⟩, by have := HLT.out; simp [RowKit.intOf]; omega⟩
    · have hj6 : j = 6 := by omega
      subst hj6
      rw [show ((6 : Nat) : Int) = 6 from rfl]
      clear hlt hj
      have K3 := Lib.hid (show Bk wr G 38 (map0 n).cs from K2.out)
      as_aux_lemma =>
        go_wp2_with (refine load_page rfl _ rfl G (map0 n) rfl K3.out ?_)
        refine (CM0.out _).mono ?_
        rintro e w4 ⟨rfl, hb⟩
        have H4 := Lib.hid (H2.out.kept hb); have K4 := Lib.hid (K3.out.kept hb); have B4 := Lib.hid (below_then B2.out hb B2.out.size)
        clear hb CM0 H2 K3 B2 K2
        go_wp2_with fail
        refine (CM1.out _).mono ?_
        rintro e w5 ⟨rfl, hb⟩
        have H5 := Lib.hid (H4.out.kept hb); have K5 := Lib.hid (K4.out.kept hb); have B5 := Lib.hid (below_then B4.out hb B4.out.size)
        clear hb CM1 H4 K4 B4
        obtain ⟨mm, hmm⟩ : ∃ mm, mm = mrk (mrk (map0 n) 0 true) 1 true := ⟨_, rfl⟩
        have MM := Lib.hid (show mm = mapN n from hmm)
        rw [← hmm]
        clear hmm
        have hg : w5.grownBy (w5.setRow G mm.cs) (some G) := ⟨rfl, rfl, rfl, by simp [World.setRow], fun q _ hq => setRow_other w5 G q _ (fun e => hq (by rw [e]))⟩
        have H6 := Lib.hid (H5.out.grown hg (fun k hk => by cases hk; have := hB0.out; have := GL.out; omega))
        have K6 := Lib.hid (show Bk (w5.setRow G mm.cs) G 38 mm.cs from row_bk K5.out)
        have B6 := Lib.hid (show Below w.heap.size w (w5.setRow G mm.cs) from below_row B5.out GL.out)
        clear hg
        go_upto_region 10 with (refine store_page rfl _ _ rfl G mm (map0 n) rfl rfl K5.out ?_)
        clear H5 K5 B5
        generalize w5.setRow G mm.cs = w6 at *
        go_wp2_with (refine build_dir rfl rfl ?_)
        refine (CS0.out _ H6.out).mono ?_
        rintro e w7 ⟨rfl, hs, hg⟩
        have H7 := Lib.hid hs
        have K7 := Lib.hid (K6.out.grown hg (fun e => by injection e with e; exact H6.out.map_ne K6.out e.symm))
        have G7 := Lib.hid (only_trans (only_below B6.out (some b)) hg)
        clear hs hg CS0 H6 K6 B6
        go_wp2_with (refine load_page rfl _ rfl G mm rfl K7.out ?_; rw [MM.out])
        refine (CS1.out _ H7.out).mono ?_
        rintro e w8 ⟨rfl, hs, hg⟩
        have H8 := Lib.hid hs
        have G8 := Lib.hid (only_trans G7.out hg)
        clear hs hg CS1 H7 K7 G7
        go_wp2
        go_ret
        exact ⟨rfl, H8.out, G8.out⟩
end Go.Proofs.YtelbioooggnbiaaGreat
namespace Go.Proofs.YtelbioooggnbiaaGreat
open Go.RowKit

def FreePost (w : World) (p : Pg) (e : Ending) (w' : World) : Prop :=
  ((∀ i, i < 6 → (p.c i).st ≠ 0) ∧ e = .returned (.tuple #[.int .i64 0, .bool false]) ∧ Below w.heap.size w w') ∨
  (∃ i : Nat, i < 6 ∧ (p.c i).st = 0 ∧ (∀ q, q < i → (p.c q).st ≠ 0) ∧ e = .returned (.tuple #[.int .i64 i, .bool true]) ∧ Below w.heap.size w w')
set_option maxRecDepth 100000 in
set_option maxHeartbeats 2000000 in
theorem freeCell_any (p : Pg) (w : World) : Calls Tryz.prog 40 #[.agg p.cs] w (FreePost w p) := by
  have K := Lib.hid (Bk.new w 38 p.cs)
  have B0 := Lib.hid ((Below.refl w.heap.size w).alloc (Nat.le_refl _) (.cells p.cs 38))
  have NO := Lib.hid (fun (w' : World) (ha : ∀ i, i < 6 → (p.c i).st ≠ 0) (hb : Below w.heap.size w w') => show FreePost w p (.returned (.tuple #[.int .i64 0, .bool false])) w' from .inl ⟨ha, rfl, hb⟩)
  have YES := Lib.hid (fun (w' : World) (i : Nat) (h1 : i < 6) (h2 : (p.c i).st = 0) (h3 : ∀ q, q < i → (p.c q).st ≠ 0) (hb : Below w.heap.size w w') => show FreePost w p (.returned (.tuple #[.int .i64 i, .bool true])) w' from .inr ⟨i, h1, h2, h3, rfl, hb⟩)
  go_enter Tryz.func40, Tryz.ntmps40
  go_upto_region 1 with fail
  generalize w.alloc (.cells p.cs 38) = w0 at *
  obtain ⟨G, hG⟩ : ∃ G, G = w.heap.size := ⟨_, rfl⟩
  rw [← hG] at K ⊢
  clear hG
  go_wp2_with (refine load_cells rfl _ rfl G p rfl K.out ?_)
  go_loopw [8] (fun i wr => ∃ j : Nat, j ≤ 6 ∧ i = .int .i64 j ∧ (∀ q, q < j → (p.c q).st ≠ 0) ∧ Below w.heap.size w wr) (fun i _ => 6 - (RowKit.intOf i).toNat)
  case atStart => exact ⟨0, Nat.zero_le _, rfl, (fun q hq => absurd hq (Nat.not_lt_zero q)), B0.out⟩
  case round =>
    obtain ⟨j, hj, rfl, ha, hb⟩ := hrel
    have A1 := Lib.hid ha; have B1 := Lib.hid hb
    clear ha hb B0 K
    by_cases hlt : j < 6
    · have HLT := Lib.hid hlt
      have B2 := Lib.hid (fun o => B1.out.alloc B1.out.size o)
      obtain ⟨cj, hcj⟩ : ∃ cj, cj = p.c j := ⟨_, rfl⟩
      have HC := Lib.hid hcj
      clear hcj
      by_cases hs : cj.st = 0
      · have S := Lib.hid (show (p.c j).st = 0 by rw [← HC.out]; exact hs)
        have hsb : (cj.st == 0) = true := by simp [hs]
        go_wp2_with (refine index_cells rfl _ _ rfl p.c j HLT.out rfl rfl ?_; rw [← HC.out])
        refine bodyPost_ret (v := .tuple #[.int .i64 j, .bool true]) (by simp [results, Tryz.results40, go_sem]) rfl ?_
        exact YES.out _ j HLT.out S.out A1.out (B2.out _)
      · have S := Lib.hid (show ∀ q, q < j + 1 → (p.c q).st ≠ 0 from fun q hq => by
          by_cases e : q = j
          · rw [e, ← HC.out]; exact hs
          · exact A1.out q (by omega))
        have hsb : (cj.st == 0) = false := by simp [hs]
        go_wp2_with (refine index_cells rfl _ _ rfl p.c j HLT.out rfl rfl ?_; rw [← HC.out])
        go_roundw
        case rel => exact ⟨j + 1, by have := HLT.out; omega, by go_num, S.out, B2.out _⟩
        case measure => have := HLT.out; simp [RowKit.intOf]; omega
    · have hj6 : j = 6 := by omega
      subst hj6
      rw [show ((6 : Nat) : Int) = 6 from rfl]
      clear hlt hj
      go_wp2
      refine bodyPost_ret (v := .tuple #[.int .i64 0, .bool false]) (by simp [results, Tryz.results40, go_sem]) rfl ?_
      exact NO.out _ A1.out B1.out
/-- Is there such a store? -/
def thereP (p : Pg) (s : Int) : Prop := 1 ≤ s ∧ s ≤ 6 ∧ (p.c (s - 1).toNat).st ≠ 0
open Classical in
set_option maxRecDepth 100000 in
set_option maxHeartbeats 2000000 in
theorem there_any (p : Pg) (s : Int) (w : World) : Calls Tryz.prog 61 #[.agg p.cs, .int .i64 s] w fun e w' => e = .returned (.bool (decide (thereP p s))) ∧ Below w.heap.size w w' := by
  have K := Lib.hid (Bk.new w 38 p.cs)
  have B0 := Lib.hid ((Below.refl w.heap.size w).alloc (Nat.le_refl _) (.cells p.cs 38))
  obtain ⟨res, hres⟩ : ∃ res, res = decide (thereP p s) := ⟨_, rfl⟩
  rw [← hres]
  have HR := Lib.hid hres
  clear hres
  go_enter Tryz.func61, Tryz.ntmps61
  go_upto_region 1 with fail
  generalize w.alloc (.cells p.cs 38) = w0 at *
  obtain ⟨G, hG⟩ : ∃ G, G = w.heap.size := ⟨_, rfl⟩
  rw [← hG] at K ⊢
  clear hG
  by_cases h1 : (1 : Int) ≤ s
  · by_cases h2 : s ≤ (6 : Int)
    · obtain ⟨j, hj⟩ : ∃ j : Nat, s = j + 1 := ⟨(s - 1).toNat, by omega⟩
      have hj6 : j < 6 := by omega
      have hsj : s - 1 = (j : Int) := by omega
      have hji : (j : Int) < 6 := by omega
      obtain ⟨st, hst⟩ : ∃ st, st = (p.c j).st := ⟨_, rfl⟩
      have c0 : w0.cell? ⟨G, 4 + j * 2, none⟩ = some (.int .i64 st) := by
        rw [K.out.cell, hst]; rcases six hj6 with h | h | h | h | h | h <;> rw [h] <;> rfl
      have R := Lib.hid (show res = (st != 0) by
        rw [HR.out, hst]
        unfold thereP
        rw [hsj, Int.toNat_natCast]
        by_cases h : (p.c j).st = 0
        · simp [h]
        · simp [h, h1, h2])
      clear hst hj
      go_wp2
      go_ret
      exact ⟨by rw [R.out]; rfl, B0.out⟩
    · have R := Lib.hid (show res = false by rw [HR.out]; exact decide_eq_false fun h => h2 h.2.1)
      go_wp2
      go_ret
      exact ⟨by rw [R.out]; rfl, B0.out⟩
  · have R := Lib.hid (show res = false by rw [HR.out]; exact decide_eq_false fun h => h1 h.1)
    go_wp2
    go_ret
    exact ⟨by rw [R.out]; rfl, B0.out⟩
theorem format_nil (n : Int) (w : World) : Calls Tryz.prog 18 #[.pointer none, .int .i64 n] w fun e w' => e = .returned (.int .i64 1) ∧ w' = w := by
  go_enter Tryz.func18, Tryz.ntmps18
  go_wp2
  go_ret
  exact ⟨rfl, rfl⟩
theorem format_bad {g : Nat} (n : Int) (w : World) (h : n < 4 ∨ 1024 < n) : Calls Tryz.prog 18 #[.pointer (some ⟨g, 0, none⟩), .int .i64 n] w fun e w' => e = .returned (.int .i64 1) ∧ w' = w := by
  go_enter Tryz.func18, Tryz.ntmps18
  by_cases h1 : n < 4
  · go_wp2
    go_ret
    exact ⟨rfl, rfl⟩
  · have h2 : (1024 : Int) < n := by omega
    go_wp2
    go_ret
    exact ⟨rfl, rfl⟩
end Go.Proofs.YtelbioooggnbiaaGreat
namespace Go.Proofs.YtelbioooggnbiaaGreat
open Go.RowKit

def setSt (p : Pg) (j : Nat) (st : Int) : Pg := putC p j ⟨st, (p.c j).d⟩
theorem setSt_ok {p : Pg} (h : p.ok) (j : Nat) (hs : (p.c j).st ≠ 0) (hj : j < 6) {st : Int} (h1 : st = 1 ∨ st = 2) : (setSt p j st).ok := by
  refine ⟨h.1, fun i hi => ?_⟩
  show (if i = j then (⟨st, (p.c j).d⟩ : Ce) else p.c i).ok
  by_cases e : i = j
  · rw [if_pos e]
    rcases h.2 j hj with ⟨a, _⟩ | ⟨_, b⟩
    · exact absurd a hs
    · exact .inr ⟨h1, b⟩
  · rw [if_neg e]; exact h.2 i hi
theorem stRow (p : Pg) (j : Nat) (hj : j < 6) (st : Int) {w : World} {G : Nat} (hk : Bk w G 38 p.cs) : Bk (w.setCells G (4 + j * 2) [.int .i64 st]) G 38 (setSt p j st).cs := by
  have := Bk.lays [.int .i64 st] w p.cs (4 + j * 2) hk
  have e : lay p.cs (4 + j * 2) [.int .i64 st] = (setSt p j st).cs := by
    unfold setSt putC Pg.cs
    rcases six hj with h | h | h | h | h | h <;> subst h <;> rfl
  rw [e] at this
  exact this
theorem st_there {w : World} {G : Nat} {p : Pg} (hk : Bk w G 38 p.cs) (j : Nat) (hj : j < 6) : w.there G (4 + j * 2) 1 := fun q hq => cell_there hk j hj q (by omega)
def mayState (p : Pg) (s st : Int) : Prop := thereP p s ∧ (st = 1 ∨ st = 2)
def StatePost (w : World) (B g b gs r N M : Nat) (und pg : Nat → Pg) (s st : Int) (e : Ending) (w' : World) : Prop :=
  (¬ mayState (pg 0) s st ∧ e = .returned (.int .i64 1) ∧ Below w.heap.size w w') ∨
  (mayState (pg 0) s st ∧ e = .returned (.int .i64 0) ∧ SV w' B g b gs r N (M + 1) und (upd pg 0 (setSt (pg 0) (s - 1).toNat st)) ∧ w.grownBy w' (some b))
open Classical in
set_option maxRecDepth 100000 in
set_option maxHeartbeats 4000000 in
theorem state_good {w : World} {B g b gs r N M : Nat} {und pg : Nat → Pg} (h : SV w B g b gs r N M und pg) (hk : (pg 0).k = 1) (hok : (pg 0).ok) (h2 : 1 ≤ N) (hM : M < maxLen) (s st : Int) :
    Calls Tryz.prog 29 #[.pointer (some ⟨g, 0, none⟩), .int .i64 s, .int .i64 st] w (StatePost w B g b gs r N M und pg s st) := by
  have H := Lib.hid h
  have CC := Lib.hid (directory_good h hk)
  have NEG := Lib.hid h.gs_ne
  obtain ⟨p, hp⟩ : ∃ p, p = pg 0 := ⟨_, rfl⟩
  rw [← hp] at CC
  have PO := Lib.hid (show p.ok by rw [hp]; exact hok)
  have NO := Lib.hid (fun (w' : World) (ha : ¬ mayState p s st) (hb : Below w.heap.size w w') => show StatePost w B g b gs r N M und pg s st (.returned (.int .i64 1)) w' from .inl ⟨by rw [← hp]; exact ha, rfl, hb⟩)
  have YES := Lib.hid (fun (w' : World) (ha : mayState p s st) (hs : SV w' B g b gs r N (M + 1) und (upd pg 0 (setSt p (s - 1).toNat st))) (hg : w.grownBy w' (some b)) => show StatePost w B g b gs r N M und pg s st (.returned (.int .i64 0)) w' from .inr ⟨by rw [← hp]; exact ha, rfl, by rw [← hp]; exact hs, hg⟩)
  have CS := Lib.hid (fun (w' : World) (hs : SV w' B g b gs r N M und pg) (q : Pg) (hq : q.ok) => (show Calls Tryz.prog 16 #[.pointer (some ⟨g, 0, none⟩), .int .i64 0, .agg q.cs] w' _ from sv_set hs 0 (by omega) q hq hM))
  have CT := Lib.hid (fun (w' : World) => there_any p s w')
  clear h h2 hM hp hk hok
  go_enter Tryz.func29, Tryz.ntmps29
  go_wp2_with fail
  refine CC.out.mono ?_
  rintro e w1 ⟨rfl, hb⟩
  have hbb := hb.alloc hb.size (.cells p.cs 38)
  have H2 := Lib.hid (H.out.kept hbb)
  have K2 := Lib.hid (Bk.new w1 38 p.cs)
  have B2 := Lib.hid hbb
  obtain ⟨G4, hG4⟩ : ∃ G4, G4 = w1.heap.size := ⟨_, rfl⟩
  rw [← hG4] at K2
  have GL := Lib.hid (show w.heap.size ≤ G4 by rw [hG4]; exact hb.size)
  clear hb hbb CC
  dsimp only
  go_upto_region 4 with (refine store_page_new rfl _ _ rfl p rfl rfl ?_; rw [← hG4]; clear hG4; generalize w1.alloc (.cells p.cs 38) = w2 at *)
  go_wp2_with (refine load_page rfl _ rfl G4 p rfl K2.out ?_)
  refine (CT.out _).mono ?_
  rintro e w3 ⟨rfl, hb⟩
  have H3 := Lib.hid (H2.out.kept hb)
  have K3 := Lib.hid (K2.out.kept hb)
  have B3 := Lib.hid (below_then B2.out hb B2.out.size)
  clear hb CT H2 K2 B2
  by_cases ht : thereP p s
  · rw [decide_eq_true ht]
    have J := Lib.hid ht
    obtain ⟨j, hj⟩ : ∃ j : Nat, s = j + 1 := ⟨(s - 1).toNat, by have := ht.1; omega⟩
    have hj6 : j < 6 := by have := ht.2.1; omega
    have hsj : s - 1 = (j : Int) := by omega
    have hji : (j : Int) < 6 := by omega
    have HJ := Lib.hid (show j < 6 ∧ s - 1 = (j : Int) from ⟨hj6, hsj⟩)
    have HS := Lib.hid (show (p.c j).st ≠ 0 by have := ht.2.2; rw [hsj, Int.toNat_natCast] at this; exact this)
    clear hj ht
    by_cases h1 : st = 1
    · subst h1
      have x0 : w3.cell? ⟨G4, 4 + j * 2, none⟩ = some (.int .i64 (p.c j).st) := by
        rw [K3.out.cell]; rcases six hj6 with h | h | h | h | h | h <;> rw [h] <;> rfl
      have f0 : w3.frozen? ⟨G4, 4 + j * 2, none⟩ = false := K3.out.fz _
      have hg := setCells_only w3 G4 (4 + j * 2) [.int .i64 1]
      have H4 := Lib.hid (H3.out.grown hg (fun k hk => by cases hk; have := NEG.out; have := GL.out; omega))
      have K4 := Lib.hid (stRow p j hj6 1 K3.out)
      have B4 := Lib.hid (bl_grow B3.out hg (fun k hk => by cases hk; exact GL.out) B3.out.size)
      have QO := Lib.hid (setSt_ok PO.out j HS.out hj6 (st := 1) (by decide))
      have MS := Lib.hid (show mayState p s 1 from ⟨J.out, by decide⟩)
      have SJ := Lib.hid (show (s - 1).toNat = j by rw [hsj, Int.toNat_natCast])
      clear hg
      go_upto_region 7 with fail
      change Code.wp _ _ _ _ (w3.setCells G4 (4 + j * 2) [.int .i64 1])
      clear x0 K3 H3 B3 HS PO
      generalize w3.setCells G4 (4 + j * 2) [.int .i64 1] = w4 at *
      obtain ⟨q, hq⟩ : ∃ q, q = setSt p j 1 := ⟨_, rfl⟩
      rw [← hq] at K4 QO
      have HQ := Lib.hid hq
      clear hq
      go_wp2_with (refine load_page rfl _ rfl G4 q rfl K4.out ?_)
      refine (CS.out _ H4.out _ QO.out).mono ?_
      rintro e w7 ⟨rfl, hs, hg⟩
      have Y := Lib.hid (YES.out w7 MS.out (by rw [SJ.out, ← HQ.out]; exact hs) (only_trans (only_below B4.out (some b)) hg))
      clear hs hg CS H4 B4
      go_wp2
      go_ret
      exact Y.out
    · by_cases h2 : st = 2
      · subst h2
        have x0 : w3.cell? ⟨G4, 4 + j * 2, none⟩ = some (.int .i64 (p.c j).st) := by
          rw [K3.out.cell]; rcases six hj6 with h | h | h | h | h | h <;> rw [h] <;> rfl
        have f0 : w3.frozen? ⟨G4, 4 + j * 2, none⟩ = false := K3.out.fz _
        have hg := setCells_only w3 G4 (4 + j * 2) [.int .i64 2]
        have H4 := Lib.hid (H3.out.grown hg (fun k hk => by cases hk; have := NEG.out; have := GL.out; omega))
        have K4 := Lib.hid (stRow p j hj6 2 K3.out)
        have B4 := Lib.hid (bl_grow B3.out hg (fun k hk => by cases hk; exact GL.out) B3.out.size)
        have QO := Lib.hid (setSt_ok PO.out j HS.out hj6 (st := 2) (by decide))
        have MS := Lib.hid (show mayState p s 2 from ⟨J.out, by decide⟩)
        have SJ := Lib.hid (show (s - 1).toNat = j by rw [hsj, Int.toNat_natCast])
        clear hg
        go_upto_region 7 with fail
        change Code.wp _ _ _ _ (w3.setCells G4 (4 + j * 2) [.int .i64 2])
        clear x0 K3 H3 B3 HS PO
        generalize w3.setCells G4 (4 + j * 2) [.int .i64 2] = w4 at *
        obtain ⟨q, hq⟩ : ∃ q, q = setSt p j 2 := ⟨_, rfl⟩
        rw [← hq] at K4 QO
        have HQ := Lib.hid hq
        clear hq
        go_wp2_with (refine load_page rfl _ rfl G4 q rfl K4.out ?_)
        refine (CS.out _ H4.out _ QO.out).mono ?_
        rintro e w7 ⟨rfl, hs, hg⟩
        have Y := Lib.hid (YES.out w7 MS.out (by rw [SJ.out, ← HQ.out]; exact hs) (only_trans (only_below B4.out (some b)) hg))
        clear hs hg CS H4 B4
        go_wp2
        go_ret
        exact Y.out
      · have hb1 : (st != 1) = true := by simp [h1]
        have hb2 : (st != 2) = true := by simp [h2]
        have Y := Lib.hid (NO.out w3 (fun h => by rcases h.2 with h | h <;> contradiction) B3.out)
        go_wp2
        go_ret
        exact Y.out
  · rw [decide_eq_false ht]
    have Y := Lib.hid (NO.out w3 (fun h => ht h.1) B3.out)
    go_wp2
    go_ret
    exact Y.out
end Go.Proofs.YtelbioooggnbiaaGreat
