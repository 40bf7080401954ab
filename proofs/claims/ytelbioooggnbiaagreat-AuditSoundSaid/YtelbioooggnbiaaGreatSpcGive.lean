/- The directory and the map, read. The directory read; a page taken. A page given back; those that are used. -/
import Derived.Test.YtelbioooggnbiaaGreatSpcBit
import Derived.Test.YtelbioooggnbiaaGreatStgV
set_option linter.unusedVariables false
set_option linter.unusedSimpArgs false
namespace Go.Proofs.YtelbioooggnbiaaGreat
open Go.RowKit

section
variable {ops : Array Oper} {rest : List Oper} {o : Oper} {a : Act} {w : World} {Q : Exit → Act → World → Prop}
theorem cells_range {w : World} {g : Nat} {p : Pg} (h : Bk w g 38 p.cs) : w.rangeAt g 4 (cs6 p.c).toList := fun j v hv => by
  have hj : j < 12 := (List.getElem?_eq_some_iff.1 hv).1
  rw [h.cell]
  have : p.cs[4 + j]? = (cs6 p.c)[j]? := by
    unfold Pg.cs cs6
    have : j = 0 ∨ j = 1 ∨ j = 2 ∨ j = 3 ∨ j = 4 ∨ j = 5 ∨ j = 6 ∨ j = 7 ∨ j = 8 ∨ j = 9 ∨ j = 10 ∨ j = 11 := by omega
    rcases this with h | h | h | h | h | h | h | h | h | h | h | h <;> subst h <;> rfl
  rw [this]
  simpa using hv
theorem load_cells (hgd : o.guard = none) (x : Operand) (ho : o.op = .load 36 x) (g : Nat) (p : Pg) (hx : a.eval x = .pointer (some ⟨g, 4, none⟩)) (hb : Bk w g 38 p.cs)
    (h : wpList Tryz.prog ops Q rest (a.put o.dst (.agg (cs6 p.c))) w) : wpList Tryz.prog ops Q (o :: rest) a w :=
  wpList_load_mid hgd 36 x ho g 4 hx (cs6 p.c).toList _ (cells_range hb) Tryz.underlying36 rfl (by show _ = some 12; kernel_rfl) (by simpa using h)
theorem index_cells (hgd : o.guard = none) (x y : Operand) (ho : o.op = .index 36 x y) (c : Nat → Ce) (j : Nat) (hj : j < 6) (hx : a.eval x = .agg (cs6 c)) (hy : a.eval y = .int .i64 j)
    (h : wpList Tryz.prog ops Q rest (a.put o.dst (.agg #[.int .i64 (c j).st, .string (c j).d])) w) : wpList Tryz.prog ops Q (o :: rest) a w := by
  refine wpList_plain hgd fun K' hK' => ?_
  have hi := idx6 c j hj w
  unfold Oper.wp execOp
  unfold cs6 at hx
  simp only [ho, hx, hy, Sem.run_bind, Sem.run_pure, Result.andThen_ok, hi]
  exact hK' _ _ h
end
set_option maxRecDepth 100000 in
set_option maxHeartbeats 4000000 in
theorem chart_good {w : World} {B g b gs r N M : Nat} {und pg : Nat → Pg} (h : SV w B g b gs r N M und pg) (h2 : 2 ≤ N) (hc : Ch (pg 1)) :
    Calls Tryz.prog 35 #[.pointer (some ⟨g, 0, none⟩)] w (PgPost (pg 1, 0) w) := by
  have H0 := Lib.hid (h.alloc (.cells Pg.zero.cs 38))
  have Z := Lib.hid (Bk.new w 38 Pg.zero.cs)
  have B0 := Lib.hid ((Below.refl w.heap.size w).alloc (Nat.le_refl _) (.cells Pg.zero.cs 38))
  have CG := sv_get H0.out 1 (by omega)
  rw [show ((1 : Nat) : Int) = 1 from rfl] at CG
  have CG := Lib.hid CG
  obtain ⟨p, hp⟩ : ∃ p, p = pg 1 := ⟨_, rfl⟩
  rw [← hp] at CG hc ⊢
  have C2 := hc.1
  have C34 := Lib.hid hc.2
  clear h hc hp
  go_enter Tryz.func35, Tryz.ntmps35
  go_upto_region 1 with fail
  change Code.wp _ _ _ _ (w.alloc (.cells Pg.zero.cs 38))
  generalize w.alloc (.cells Pg.zero.cs 38) = w0 at *
  obtain ⟨G, hG⟩ : ∃ G, G = w.heap.size := ⟨_, rfl⟩
  rw [← hG] at Z ⊢
  have GL := Lib.hid (show w.heap.size ≤ G from Nat.le_of_eq hG.symm)
  clear hG
  go_wp2_with fail
  refine CG.out.mono ?_
  rintro e w1 ⟨rfl, hb⟩
  have hbb := hb.alloc hb.size (.cells p.cs 38)
  have Z2 := Lib.hid (Z.out.kept hbb)
  have B2 := Lib.hid (below_then B0.out hbb B0.out.size)
  have K2 := Lib.hid (Bk.new w1 38 p.cs)
  obtain ⟨G4, hG4⟩ : ∃ G4, G4 = w1.heap.size := ⟨_, rfl⟩
  rw [← hG4] at K2
  have x0 : (w1.alloc (.cells p.cs 38)).cell? ⟨G4, 0, none⟩ = some (.int .i64 2) := by rw [K2.out.cell]; show some (Value.int .i64 p.k) = _; rw [C2]
  clear hb hbb CG Z B0 H0
  dsimp only
  go_upto_region 4 with (refine store_page_new rfl _ _ rfl p rfl rfl ?_; rw [← hG4]; clear hG4; generalize w1.alloc (.cells p.cs 38) = w2 at *)
  go_wp2_with (refine load_cells rfl _ rfl G4 p rfl K2.out ?_)
  go_loopw [23] (fun i wr => ∃ j : Nat, j ≤ 6 ∧ i = .int .i64 j ∧ Bk wr G 38 Pg.zero.cs ∧ Bk wr G4 38 p.cs ∧ Below w.heap.size w wr) (fun i _ => 6 - (RowKit.intOf i).toNat)
  case atStart => exact ⟨0, Nat.zero_le _, rfl, Z2.out, K2.out, B2.out⟩
  case round =>
    obtain ⟨j, hj, rfl, hz, hk, hb⟩ := hrel
    have Z3 := Lib.hid hz; have K3 := Lib.hid hk; have B3 := Lib.hid hb
    clear hz hk hb Z2 K2 B2 x0
    by_cases hlt : j < 6
    · have HLT := Lib.hid hlt
      have hs := C34.out j hlt
      have Z4 := Lib.hid (fun o => Z3.out.alloc o)
      have K4 := Lib.hid (fun o => K3.out.alloc o)
      have B4 := Lib.hid (fun o => B3.out.alloc B3.out.size o)
      generalize hcj : p.c j = cj at *
      have ix := hcj
      go_wp2_with (refine index_cells rfl _ _ rfl p.c j HLT.out rfl rfl ?_; rw [hcj])
      go_roundw
      case rel => exact ⟨j + 1, by have := HLT.out; omega, by go_num, Z4.out _, K4.out _, B4.out _⟩
      case measure => have := HLT.out; simp [RowKit.intOf]; omega
    · have hjn : j = 6 := by omega
      clear hj
      go_wp2_with (first | (refine load_page rfl _ rfl G4 p rfl K3.out ?_) | (refine store_page rfl _ _ rfl G p Pg.zero rfl rfl Z3.out ?_))
      refine bodyPost_ret (page_res rfl _ _ G p.cs (row_bk Z3.out) rfl rfl) rfl ?_
      exact ⟨rfl, below_row B3.out GL.out⟩
end Go.Proofs.YtelbioooggnbiaaGreat
namespace Go.Proofs.YtelbioooggnbiaaGreat
open Go.RowKit

set_option maxRecDepth 100000 in
set_option maxHeartbeats 1000000 in
theorem directory_good {w : World} {B g b gs r N M : Nat} {und pg : Nat → Pg} (h : SV w B g b gs r N M und pg) (hk : (pg 0).k = 1) :
    Calls Tryz.prog 39 #[.pointer (some ⟨g, 0, none⟩)] w (PgPost (pg 0, 0) w) := by
  have H0 := Lib.hid (h.alloc (.cells Pg.zero.cs 38))
  have Z := Lib.hid (Bk.new w 38 Pg.zero.cs)
  have B0 := Lib.hid ((Below.refl w.heap.size w).alloc (Nat.le_refl _) (.cells Pg.zero.cs 38))
  have CG := sv_get H0.out 0 (by have := h.most; omega)
  rw [show ((0 : Nat) : Int) = 0 from rfl] at CG
  have CG := Lib.hid CG
  obtain ⟨p, hp⟩ : ∃ p, p = pg 0 := ⟨_, rfl⟩
  rw [← hp] at CG hk ⊢
  clear h hp
  go_enter Tryz.func39, Tryz.ntmps39
  go_upto_region 1 with fail
  change Code.wp _ _ _ _ (w.alloc (.cells Pg.zero.cs 38))
  generalize w.alloc (.cells Pg.zero.cs 38) = w0 at *
  obtain ⟨G, hG⟩ : ∃ G, G = w.heap.size := ⟨_, rfl⟩
  rw [← hG] at Z ⊢
  have GL := Lib.hid (show w.heap.size ≤ G from Nat.le_of_eq hG.symm)
  clear hG
  go_wp2_with fail
  refine CG.out.mono ?_
  rintro e w1 ⟨rfl, hb⟩
  have hbb := hb.alloc hb.size (.cells p.cs 38)
  have Z2 := Lib.hid (Z.out.kept hbb)
  have B2 := Lib.hid (below_then B0.out hbb B0.out.size)
  have K2 := Lib.hid (Bk.new w1 38 p.cs)
  obtain ⟨G4, hG4⟩ : ∃ G4, G4 = w1.heap.size := ⟨_, rfl⟩
  rw [← hG4] at K2
  have x0 : (w1.alloc (.cells p.cs 38)).cell? ⟨G4, 0, none⟩ = some (.int .i64 1) := by rw [K2.out.cell]; show some (Value.int .i64 p.k) = _; rw [hk]
  clear hb hbb CG Z B0 H0
  dsimp only
  go_upto_region 4 with (refine store_page_new rfl _ _ rfl p rfl rfl ?_; rw [← hG4]; clear hG4; generalize w1.alloc (.cells p.cs 38) = w2 at *)
  go_wp2_with (first | (refine load_page rfl _ rfl G4 p rfl K2.out ?_) | (refine store_page rfl _ _ rfl G p Pg.zero rfl rfl Z2.out ?_))
  refine bodyPost_ret (page_res rfl _ _ G p.cs (row_bk Z2.out) rfl rfl) rfl ?_
  exact ⟨rfl, below_row B2.out GL.out⟩
/-- A sound map of n pages. -/
structure MapOk (m : Pg) (n : Nat) : Prop where
  ch : Ch m
  ok : m.ok
  num : m.n = (n : Int) - 1
  lo : 4 ≤ n
  hi : n ≤ 1024
theorem MapOk.mrk {m : Pg} {n : Nat} (h : MapOk m n) (id : Nat) (on : Bool) : MapOk (mrk m id on) n := by
  refine ⟨mrk_ch h.ch id on, ⟨h.ok.1, fun i hi => ?_⟩, h.num, h.lo, h.hi⟩
  have h1 := h.ok.2 i hi
  unfold Go.Proofs.YtelbioooggnbiaaGreat.mrk putC
  dsimp only
  by_cases e : i = id / 272
  · rw [if_pos e]
    rw [e] at h1
    have hs := h.ch.2 (id / 272) (by omega)
    rcases h1 with ⟨h1, h2⟩ | ⟨h1, h2⟩
    · rw [h2] at hs; cases hs
    · exact .inr ⟨h1, by show (setB _ _ _).size ≤ 34; rw [setB_size]; exact h2⟩
  · rw [if_neg e]; exact h1
def TakePost (w : World) (B g b gs r N M n : Nat) (und pg : Nat → Pg) (e : Ending) (w' : World) : Prop :=
  ((∀ i, i < n → ownB (pg 1) i = true) ∧ e = .returned (.tuple #[.int .i64 0, .int .i64 140]) ∧ Below w.heap.size w w') ∨
  (∃ id, id < n ∧ ownB (pg 1) id = false ∧ (∀ i, i < id → ownB (pg 1) i = true) ∧ e = .returned (.tuple #[.int .i64 id, .int .i64 0]) ∧ SV w' B g b gs r N (M + 1) und (upd pg 1 (mrk (pg 1) id true)) ∧ w.grownBy w' (some b))
set_option maxRecDepth 100000 in
set_option maxHeartbeats 4000000 in
theorem take_good {w : World} {B g b gs r N M n : Nat} {und pg : Nat → Pg} (h : SV w B g b gs r N M und pg) (h2 : 2 ≤ N) (hm : MapOk (pg 1) n) (hM : M < maxLen) :
    Calls Tryz.prog 14 #[.pointer (some ⟨g, 0, none⟩)] w (TakePost w B g b gs r N M n und pg) := by
  have H := Lib.hid h
  have CC := Lib.hid (chart_good h h2 hm.ch)
  obtain ⟨p, hp⟩ : ∃ p, p = pg 1 := ⟨_, rfl⟩
  have HP := Lib.hid hp
  rw [← hp] at CC
  have MO := Lib.hid (show MapOk p n by rw [hp]; exact hm)
  have NO := Lib.hid (fun (w' : World) (ha : ∀ i, i < n → ownB p i = true) (hb : Below w.heap.size w w') => show TakePost w B g b gs r N M n und pg (.returned (.tuple #[.int .i64 0, .int .i64 140])) w' from .inl ⟨by rw [← hp]; exact ha, rfl, hb⟩)
  have YES := Lib.hid (fun (w' : World) (id : Nat) (h1 : id < n) (h2 : ownB p id = false) (h3 : ∀ i, i < id → ownB p i = true) (hs : SV w' B g b gs r N (M + 1) und (upd pg 1 (mrk p id true))) (hg : w.grownBy w' (some b)) => show TakePost w B g b gs r N M n und pg (.returned (.tuple #[.int .i64 id, .int .i64 0])) w' from .inr ⟨id, h1, by rw [← hp]; exact h2, by rw [← hp]; exact h3, rfl, by rw [← hp]; exact hs, hg⟩)
  have CS := Lib.hid (fun (w' : World) (hs : SV w' B g b gs r N M und pg) (q : Pg) (hq : q.ok) => (show Calls Tryz.prog 16 #[.pointer (some ⟨g, 0, none⟩), .int .i64 1, .agg q.cs] w' _ from sv_set hs 1 (by omega) q hq hM))
  have CN := Lib.hid (fun (w' : World) => count_any p w' (by have := MO.out.num; have := MO.out.lo; have := MO.out.hi; omega))
  rw [show p.n + 1 = (n : Int) by have := MO.out.num; omega] at CN
  clear h h2 hm hM hp
  go_enter Tryz.func14, Tryz.ntmps14
  go_wp2_with fail
  refine CC.out.mono ?_
  rintro e w1 ⟨rfl, hb⟩
  have hbb := hb.alloc hb.size (.cells p.cs 38)
  have H2 := Lib.hid (H.out.kept hbb)
  have K2 := Lib.hid (Bk.new w1 38 p.cs)
  have B2 := Lib.hid hbb
  obtain ⟨G4, hG4⟩ : ∃ G4, G4 = w1.heap.size := ⟨_, rfl⟩
  rw [← hG4] at K2
  clear hb hbb CC H
  dsimp only
  go_upto_region 4 with (refine store_page_new rfl _ _ rfl p rfl rfl ?_; rw [← hG4]; clear hG4; generalize w1.alloc (.cells p.cs 38) = w2 at *)
  go_wp2_with (refine load_page rfl _ rfl G4 p rfl K2.out ?_)
  refine (CN.out _).mono ?_
  rintro e w3 ⟨rfl, hb⟩
  have H3 := Lib.hid (H2.out.kept hb)
  have K3 := Lib.hid (K2.out.kept hb)
  have B3 := Lib.hid (below_then B2.out hb B2.out.size)
  clear hb CN H2 K2 B2
  go_wp2_with fail
  go_loopw [18] (fun i wr => ∃ j : Nat, j ≤ n ∧ i = .int .i64 j ∧ (∀ q, q < j → ownB p q = true) ∧ SV wr B g b gs r N M und pg ∧ Bk wr G4 38 p.cs ∧ Below w.heap.size w wr) (fun i _ => n - (RowKit.intOf i).toNat)
  case atStart => exact ⟨0, Nat.zero_le _, rfl, (fun q hq => absurd hq (Nat.not_lt_zero q)), H3.out, K3.out, B3.out⟩
  case round =>
    obtain ⟨j, hj, rfl, ha, hs, hk, hb⟩ := hrel
    have A4 := Lib.hid ha; have H4 := Lib.hid hs; have K4 := Lib.hid hk; have B4 := Lib.hid hb
    clear ha hs hk hb H3 K3 B3
    by_cases hlt : j < n
    · have HLT := Lib.hid hlt
      have hjb : j < 1024 := by have := MO.out.hi; omega
      have CO := Lib.hid (fun (w' : World) => owned_any p j w' (by omega) (MO.out.ch.2 _ (by omega)))
      have CM := Lib.hid (fun (w' : World) => mark_any p j true w' (by omega) (MO.out.ch.2 _ (by omega)))
      go_wp2_with (refine load_page rfl _ rfl G4 p rfl K4.out ?_)
      refine (CO.out _).mono ?_
      rintro e w5 ⟨rfl, hb⟩
      have H5 := Lib.hid (H4.out.kept hb)
      have K5 := Lib.hid (K4.out.kept hb)
      have B5 := Lib.hid (below_then B4.out hb B4.out.size)
      clear hb CO H4 K4 B4
      by_cases ho : ownB p j = true
      · have A5 := Lib.hid (show ∀ q, q < j + 1 → ownB p q = true from fun q hq => by
          by_cases e : q = j
          · rw [e]; exact ho
          · exact A4.out q (by omega))
        rw [ho]
        clear ho
        go_wp2
        go_roundw
        case rel => exact ⟨j + 1, by have := HLT.out; omega, by go_num, A5.out, H5.out, K5.out, B5.out⟩
        case measure => have := HLT.out; simp [RowKit.intOf]; omega
      · have ho : ownB p j = false := by simpa using ho
        have HO := Lib.hid ho
        rw [ho]
        clear ho
        go_wp2_with (refine load_page rfl _ rfl G4 p rfl K5.out ?_)
        refine (CM.out _).mono ?_
        rintro e w6 ⟨rfl, hb⟩
        have H6 := Lib.hid (H5.out.kept hb)
        have B6 := Lib.hid (below_then B5.out hb B5.out.size)
        clear hb CM H5 K5 B5
        go_wp2_with fail
        refine (CS.out _ H6.out _ (MO.out.mrk j true).ok).mono ?_
        rintro e w7 ⟨rfl, hs, hg⟩
        have Y := Lib.hid (YES.out w7 j HLT.out HO.out A4.out hs (only_trans (only_below B6.out (some b)) hg))
        clear hs hg CS H6 B6
        go_wp2
        refine bodyPost_ret (v := .tuple #[.int .i64 j, .int .i64 0]) (by simp [results, Tryz.results14, go_sem]) rfl ?_
        exact Y.out
    · have hjn : j = n := by omega
      subst hjn
      clear hlt hj
      have Y := Lib.hid (NO.out wr A4.out B4.out)
      go_wp2
      refine bodyPost_ret (v := .tuple #[.int .i64 0, .int .i64 140]) (by simp [results, Tryz.results14, go_sem]) rfl ?_
      exact Y.out
end Go.Proofs.YtelbioooggnbiaaGreat
namespace Go.Proofs.YtelbioooggnbiaaGreat
open Go.RowKit

/-- May this page be given back? -/
def mayGive (m : Pg) (n : Nat) (id : Int) : Prop := 2 ≤ id ∧ id < n ∧ ownB m id.toNat = true
def GivePost (w : World) (B g b gs r N M n : Nat) (und pg : Nat → Pg) (id : Int) (e : Ending) (w' : World) : Prop :=
  (¬ mayGive (pg 1) n id ∧ e = .returned (.int .i64 1) ∧ Below w.heap.size w w') ∨
  (mayGive (pg 1) n id ∧ e = .returned (.int .i64 0) ∧ SV w' B g b gs r N (M + 1) und (upd pg 1 (mrk (pg 1) id.toNat false)) ∧ w.grownBy w' (some b))
set_option maxRecDepth 100000 in
set_option maxHeartbeats 4000000 in
theorem give_good {w : World} {B g b gs r N M n : Nat} {und pg : Nat → Pg} (h : SV w B g b gs r N M und pg) (h2 : 2 ≤ N) (hm : MapOk (pg 1) n) (hM : M < maxLen) (id : Int) :
    Calls Tryz.prog 15 #[.pointer (some ⟨g, 0, none⟩), .int .i64 id] w (GivePost w B g b gs r N M n und pg id) := by
  have H := Lib.hid h
  have CC := Lib.hid (chart_good h h2 hm.ch)
  obtain ⟨p, hp⟩ : ∃ p, p = pg 1 := ⟨_, rfl⟩
  rw [← hp] at CC
  have MO := Lib.hid (show MapOk p n by rw [hp]; exact hm)
  have NO := Lib.hid (fun (w' : World) (ha : ¬ mayGive p n id) (hb : Below w.heap.size w w') => show GivePost w B g b gs r N M n und pg id (.returned (.int .i64 1)) w' from .inl ⟨by rw [← hp]; exact ha, rfl, hb⟩)
  have YES := Lib.hid (fun (w' : World) (ha : mayGive p n id) (hs : SV w' B g b gs r N (M + 1) und (upd pg 1 (mrk p id.toNat false))) (hg : w.grownBy w' (some b)) => show GivePost w B g b gs r N M n und pg id (.returned (.int .i64 0)) w' from .inr ⟨by rw [← hp]; exact ha, rfl, by rw [← hp]; exact hs, hg⟩)
  have CS := Lib.hid (fun (w' : World) (hs : SV w' B g b gs r N M und pg) (q : Pg) (hq : q.ok) => (show Calls Tryz.prog 16 #[.pointer (some ⟨g, 0, none⟩), .int .i64 1, .agg q.cs] w' _ from sv_set hs 1 (by omega) q hq hM))
  have CN := Lib.hid (fun (w' : World) => count_any p w' (by have := MO.out.num; have := MO.out.lo; have := MO.out.hi; omega))
  rw [show p.n + 1 = (n : Int) by have := MO.out.num; omega] at CN
  clear h h2 hm hM hp
  go_enter Tryz.func15, Tryz.ntmps15
  go_wp2_with fail
  refine CC.out.mono ?_
  rintro e w1 ⟨rfl, hb⟩
  have hbb := hb.alloc hb.size (.cells p.cs 38)
  have H2 := Lib.hid (H.out.kept hbb)
  have K2 := Lib.hid (Bk.new w1 38 p.cs)
  have B2 := Lib.hid hbb
  obtain ⟨G4, hG4⟩ : ∃ G4, G4 = w1.heap.size := ⟨_, rfl⟩
  rw [← hG4] at K2
  clear hb hbb CC H
  dsimp only
  go_upto_region 4 with (refine store_page_new rfl _ _ rfl p rfl rfl ?_; rw [← hG4]; clear hG4; generalize w1.alloc (.cells p.cs 38) = w2 at *)
  by_cases h1 : id < 2
  · have Y := Lib.hid (NO.out w2 (fun h => by have := h.1; omega) B2.out)
    go_wp2
    go_ret
    exact Y.out
  have H1 := Lib.hid h1
  go_wp2_with (refine load_page_if _ rfl (by first | rfl | kernel_rfl) G4 p rfl K2.out ?_)
  refine (CN.out _).mono ?_
  rintro e w3 ⟨rfl, hb⟩
  have H3 := Lib.hid (H2.out.kept hb)
  have K3 := Lib.hid (K2.out.kept hb)
  have B3 := Lib.hid (below_then B2.out hb B2.out.size)
  clear hb CN H2 K2 B2
  by_cases h2 : (n : Int) ≤ id
  · have Y := Lib.hid (NO.out w3 (fun h => by have := h.2.1; omega) B3.out)
    go_wp2
    go_ret
    exact Y.out
  obtain ⟨j, rfl⟩ : ∃ j : Nat, id = j := ⟨id.toNat, by omega⟩
  have hjb : j < 1024 := by have := MO.out.hi; omega
  have J2 := Lib.hid (show 2 ≤ j ∧ j < n by omega)
  have h2n : ¬ n ≤ j := by omega
  have h2d : decide ((n : Int) ≤ (j : Int)) = false := decide_eq_false h2
  have h2e : decide (n ≤ j) = false := decide_eq_false h2n
  have CO := Lib.hid (fun (w' : World) => owned_any p j w' (by omega) (MO.out.ch.2 _ (by omega)))
  have CM := Lib.hid (fun (w' : World) => mark_any p j false w' (by omega) (MO.out.ch.2 _ (by omega)))
  go_wp2_with (refine load_page_if _ rfl (by first | rfl | kernel_rfl) G4 p rfl K3.out ?_)
  refine (CO.out _).mono ?_
  rintro e w5 ⟨rfl, hb⟩
  have H5 := Lib.hid (H3.out.kept hb)
  have K5 := Lib.hid (K3.out.kept hb)
  have B5 := Lib.hid (below_then B3.out hb B3.out.size)
  clear hb CO H3 K3 B3
  by_cases ho : ownB p j = true
  · have MG := Lib.hid (show mayGive p n (j : Int) from ⟨by have := J2.out; omega, by have := J2.out; omega, by rw [Int.toNat_natCast]; exact ho⟩)
    rw [ho]
    clear ho
    go_wp2_with (refine load_page rfl _ rfl G4 p rfl K5.out ?_)
    refine (CM.out _).mono ?_
    rintro e w6 ⟨rfl, hb⟩
    have H6 := Lib.hid (H5.out.kept hb)
    have B6 := Lib.hid (below_then B5.out hb B5.out.size)
    clear hb CM H5 K5 B5
    go_wp2_with fail
    refine (CS.out _ H6.out _ (MO.out.mrk j false).ok).mono ?_
    rintro e w7 ⟨rfl, hs, hg⟩
    have Y := Lib.hid (YES.out w7 MG.out (by rw [Int.toNat_natCast]; exact hs) (only_trans (only_below B6.out (some b)) hg))
    clear hs hg CS H6 B6
    go_wp2
    go_ret
    exact Y.out
  · have Y := Lib.hid (NO.out w5 (fun h => by have := h.2.2; rw [Int.toNat_natCast] at this; exact ho this) B5.out)
    have ho : ownB p j = false := by simpa using ho
    rw [ho]
    clear ho
    go_wp2
    go_ret
    exact Y.out
def usedL (m : Pg) (n : Nat) : List Int := ((List.range n).filter (ownB m)).map fun i : Nat => (i : Int)
def IntsOwn (w : World) (base : Nat) (v : Value) (l : List Int) : Prop := w.ownsRow base 3 1 v l.length (l.map (Value.int .i64))
def UsedPost (w : World) (m : Pg) (n : Nat) (e : Ending) (w' : World) : Prop := ∃ v, e = .returned (.tuple #[v, .int .i64 n, .int .i64 0]) ∧ IntsOwn w' w.heap.size v (usedL m n) ∧ Below w.heap.size w w'
theorem usedL_succ (m : Pg) (j : Nat) : usedL m (j + 1) = if ownB m j = true then usedL m j ++ [(j : Int)] else usedL m j := by
  unfold usedL
  rw [List.range_succ, List.filter_append, List.map_append]
  by_cases h : ownB m j = true
  · rw [if_pos h]; simp [h]
  · rw [if_neg h]; simp [h]
theorem usedL_len (m : Pg) (j : Nat) : (usedL m j).length ≤ j := by
  unfold usedL
  rw [List.length_map]
  exact Nat.le_trans (List.length_filter_le _ _) (by simp)
set_option maxRecDepth 100000 in
set_option maxHeartbeats 4000000 in
theorem used_good {w : World} {B g b gs r N M n : Nat} {und pg : Nat → Pg} (h : SV w B g b gs r N M und pg) (h2 : 2 ≤ N) (hm : MapOk (pg 1) n) :
    Calls Tryz.prog 12 #[.pointer (some ⟨g, 0, none⟩)] w (UsedPost w (pg 1) n) := by
  have CC := Lib.hid (chart_good h h2 hm.ch)
  obtain ⟨i0, hi, hz0, hz1, hz2⟩ := info_parts Tryz.info3
  obtain ⟨p, hp⟩ : ∃ p, p = pg 1 := ⟨_, rfl⟩
  rw [← hp] at CC hm ⊢
  have MO := Lib.hid hm
  have CN := Lib.hid (fun (w' : World) => count_any p w' (by have := MO.out.num; have := MO.out.lo; have := MO.out.hi; omega))
  rw [show p.n + 1 = (n : Int) by have := MO.out.num; omega] at CN
  clear h h2 hm hp
  go_enter Tryz.func12, Tryz.ntmps12
  go_wp2_with fail
  refine CC.out.mono ?_
  rintro e w1 ⟨rfl, hb⟩
  have hbb := hb.alloc hb.size (.cells p.cs 38)
  have K2 := Lib.hid (Bk.new w1 38 p.cs)
  have B2 := Lib.hid hbb
  obtain ⟨G4, hG4⟩ : ∃ G4, G4 = w1.heap.size := ⟨_, rfl⟩
  rw [← hG4] at K2
  clear hb hbb CC
  dsimp only
  go_upto_region 4 with (refine store_page_new rfl _ _ rfl p rfl rfl ?_; rw [← hG4]; clear hG4; generalize w1.alloc (.cells p.cs 38) = w2 at *)
  go_wp2_with (refine load_page rfl _ rfl G4 p rfl K2.out ?_)
  refine (CN.out _).mono ?_
  rintro e w3 ⟨rfl, hb⟩
  have K3 := Lib.hid (K2.out.kept hb)
  have B3 := Lib.hid (below_then B2.out hb B2.out.size)
  obtain ⟨BQ, hBQ⟩ : ∃ BQ, BQ = w3.heap.size := ⟨_, rfl⟩
  have QL := Lib.hid (show w.heap.size ≤ BQ ∧ G4 < BQ ∧ BQ ≤ w3.heap.size from by rw [hBQ]; exact ⟨B3.out.size, K3.out.lt, Nat.le_refl _⟩)
  clear hb CN K2 B2 hBQ
  go_wp2_with fail
  go_loopw [7, 19] (fun x i wr => ∃ j : Nat, j ≤ n ∧ i = .int .i64 j ∧ IntsOwn wr BQ x (usedL p j) ∧ Bk wr G4 38 p.cs ∧ Below w.heap.size w wr ∧ BQ ≤ wr.heap.size) (fun _ i _ => n - (RowKit.intOf i).toNat)
  case atStart => exact ⟨0, Nat.zero_le _, rfl, World.ownsRow_nil _ _ _ _, K3.out, B3.out, QL.out.2.2⟩
  case round =>
    obtain ⟨j, hj, rfl, hO, hk, hb, hz⟩ := hrel
    obtain ⟨xa, xc, hxe⟩ := ow_slice hO
    subst hxe
    have O4 := Lib.hid hO; have K4 := Lib.hid hk; have B4 := Lib.hid hb; have Z4 := Lib.hid hz
    clear hO hk hb hz K3 B3
    by_cases hlt : j < n
    · have HLT := Lib.hid hlt
      have hjb : j < 1024 := by have := MO.out.hi; omega
      have US := Lib.hid (usedL_succ p j)
      have UL := Lib.hid (show (usedL p j).length < 1024 by have := usedL_len p j; omega)
      have CO := Lib.hid (fun (w' : World) => owned_any p j w' (by omega) (MO.out.ch.2 _ (by omega)))
      go_wp2_with (refine load_page rfl _ rfl G4 p rfl K4.out ?_)
      refine (CO.out _).mono ?_
      rintro e w5 ⟨rfl, hb⟩
      have O5 := Lib.hid (show IntsOwn w5 BQ (.slice xa (usedL p j).length xc) (usedL p j) from ow_kept O4.out hb)
      have K5 := Lib.hid (K4.out.kept hb)
      have B5 := Lib.hid (below_then B4.out hb B4.out.size)
      have Z5 := Lib.hid (Nat.le_trans Z4.out hb.size)
      clear hb CO O4 K4 B4 Z4
      by_cases ho : ownB p j = true
      · have US2 := Lib.hid (show usedL p (j + 1) = usedL p j ++ [(j : Int)] by rw [US.out, if_pos ho])
        rw [ho]
        clear ho US
        have O6 := Lib.hid (show (w5.alloc (.cells #[.int .i64 j] 3)).ownsRow BQ 3 1 (.slice xa (usedL p j).length xc) (usedL p j).length ((usedL p j).map (Value.int .i64)) from World.ownsRow.alloc O5.out _)
        generalize hul : usedL p j = ul at *
        go_wp2_with (at_builtin; refine wpList_append_one _ rfl _ _ 45 rfl BQ 3 i0 (.int .i64 0) 1 8 Tryz.underlying45 hi hz0 hz1 hz2 rfl (.slice xa ul.length xc) ul.length (ul.map (Value.int .i64)) rfl O6.out ⟨w5.heap.size, 0, none⟩ 1 [.int .i64 j] rfl rfl ?qc2 ?qc3 ?qc4 (by omega) ?qc5 ?qc6 ?_)
        case qc2 =>
          intro q y hy
          rw [Addr.add_lit, Nat.zero_add]
          refine Eq.trans ((Bk.new w5 3 #[.int .i64 j]).cell q) ?_
          simpa using hy
        case qc3 => simp [Value.oneCell']
        case qc4 => have := UL.out; unfold maxLen; omega
        case qc5 => have := UL.out; omega
        case qc6 => have := Z5.out; simp; omega
        intro v2 w6 hown hgrow
        obtain ⟨ya, yc, hye⟩ := ow_slice hown
        subst hye
        have O7 := Lib.hid (show IntsOwn w6 BQ (.slice ya (ul.length + 1) yc) (usedL p (j + 1)) by rw [US2.out]; unfold IntsOwn; rw [List.length_append, List.map_append]; exact hown)
        have K7 := Lib.hid ((K5.out.alloc (.cells #[.int .i64 j] 3)).grown hgrow (fun e => by have := (ow_blk O6.out e.symm).1; have := QL.out; omega))
        have B7 := Lib.hid (bl_grow (B5.out.alloc B5.out.size (.cells #[.int .i64 j] 3)) hgrow (fun k hk => by have := (ow_blk O6.out hk).1; have := QL.out; omega) (by have := B5.out.size; simp; omega))
        have Z7 := Lib.hid (show BQ ≤ w6.heap.size by have h1 := hgrow.size; have := Z5.out; simp at h1; omega)
        clear hown hgrow O6 O5 K5 B5 Z5
        go_wp2
        go_roundw
        case rel => exact ⟨j + 1, by have := HLT.out; omega, by go_num, O7.out, K7.out, B7.out, Z7.out⟩
        case measure => have := HLT.out; simp [RowKit.intOf]; omega
      · have US2 := Lib.hid (show usedL p (j + 1) = usedL p j by rw [US.out, if_neg ho])
        have ho : ownB p j = false := by simpa using ho
        rw [ho]
        clear ho US
        have O7 := Lib.hid (show IntsOwn w5 BQ (.slice xa (usedL p j).length xc) (usedL p (j + 1)) by rw [US2.out]; exact O5.out)
        go_wp2
        go_roundw
        case rel => exact ⟨j + 1, by have := HLT.out; omega, by go_num, O7.out, K5.out, B5.out, Z5.out⟩
        case measure => have := HLT.out; simp [RowKit.intOf]; omega
    · have hjn : j = n := by omega
      subst hjn
      clear hlt hj
      have hnum := MO.out.num
      have x3 : wr.cell? ⟨G4, 3, none⟩ = some (.int .i64 ((j : Int) - 1)) := by rw [K4.out.cell]; show some (Value.int .i64 p.n) = _; rw [hnum]
      have hj1 : 4 ≤ j := MO.out.lo
      have hj2 : j ≤ 1024 := MO.out.hi
      go_upto_region 11 with fail
      go_quiet (fail)
      have OQ := Lib.hid (fun (q : Nat) => show IntsOwn (wr.drewN q) w.heap.size (.slice xa (usedL p j).length xc) (usedL p j) from ow_mono O4.out QL.out.1)
      have BQ2 := Lib.hid (fun (q : Nat) => below_drewN B4.out q)
      go_wp2
      refine bodyPost_ret (v := .tuple #[.slice xa (usedL p j).length xc, .int .i64 j, .int .i64 0]) (by simp [results, Tryz.results12, go_sem]) rfl ?_
      exact ⟨_, rfl, OQ.out _, BQ2.out _⟩
end Go.Proofs.YtelbioooggnbiaaGreat
