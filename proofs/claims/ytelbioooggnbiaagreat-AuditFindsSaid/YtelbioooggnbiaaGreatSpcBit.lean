/- The map's bits, plain. The map's bits. -/
import Derived.Test.YtelbioooggnbiaaGreatStgSS
import Derived.Laws.IdiomStrings
set_option linter.unusedVariables false
set_option linter.unusedSimpArgs false
namespace Go.Proofs.YtelbioooggnbiaaGreat
open Go.RowKit

/-- Bit i of some bytes. -/
def bitOf (d : ByteArray) (i : Nat) : Bool := (d.data.getD (i / 8) 0).toNat.testBit (i % 8)
def clrN (x k : Nat) : Nat := x &&& (255 - 2 ^ k)
def setN (x k : Nat) (on : Bool) : Nat := if on then clrN x k ||| 2 ^ k else clrN x k
theorem and_tab : ∀ (x : Fin 256) (k : Fin 8), (bits .and .u8 ((x.val : Int) / 2 ^ k.val) 1 == 1) = x.val.testBit k.val := by decide +kernel
theorem clr_tab : ∀ (x : Fin 256) (k : Fin 8), bits .andNot .u8 (x.val : Int) (2 ^ k.val) = (clrN x.val k.val : Int) := by decide +kernel
theorem or_tab : ∀ (x : Fin 256) (k : Fin 8), bits .or .u8 (x.val : Int) (2 ^ k.val) = ((x.val ||| 2 ^ k.val : Nat) : Int) := by decide +kernel
theorem setN_tab : ∀ (x : Fin 256) (k : Fin 8), clrN x.val k.val < 256 ∧ (clrN x.val k.val ||| 2 ^ k.val) < 256 := by decide +kernel
theorem and_bit (x : UInt8) (k : Nat) (hk : k < 8) : (bits .and .u8 ((x.toNat : Int) / 2 ^ k) 1 == 1) = x.toNat.testBit k := and_tab ⟨x.toNat, x.toNat_lt⟩ ⟨k, hk⟩
theorem clr_bit (x : UInt8) (k : Nat) (hk : k < 8) : bits .andNot .u8 (x.toNat : Int) (2 ^ k) = (clrN x.toNat k : Int) := clr_tab ⟨x.toNat, x.toNat_lt⟩ ⟨k, hk⟩
theorem or_bit (x : Nat) (k : Nat) (hx : x < 256) (hk : k < 8) : bits .or .u8 (x : Int) (2 ^ k) = ((x ||| 2 ^ k : Nat) : Int) := or_tab ⟨x, hx⟩ ⟨k, hk⟩
theorem setN_lt (x : UInt8) (k : Nat) (hk : k < 8) (on : Bool) : setN x.toNat k on < 256 := by
  have := setN_tab ⟨x.toNat, x.toNat_lt⟩ ⟨k, hk⟩
  unfold setN
  cases on
  · exact this.1
  · exact this.2
theorem mask_tab : ∀ (k j : Fin 8), (255 - 2 ^ k.val).testBit j.val = (decide (j ≠ k)) := by decide +kernel
theorem setN_bit (x k j : Nat) (hk : k < 8) (hj : j < 8) (on : Bool) : (setN x k on).testBit j = if j = k then on else x.testBit j := by
  have hm := mask_tab ⟨k, hk⟩ ⟨j, hj⟩
  simp only [Fin.mk.injEq, ne_eq] at hm
  unfold setN clrN
  by_cases e : j = k
  · subst e
    rw [if_pos rfl]
    cases on <;> simp [Nat.testBit_and, Nat.testBit_or, hm, Nat.testBit_two_pow_self]
  · rw [if_neg e]
    have h2 : (2 ^ k).testBit j = false := Nat.testBit_two_pow_of_ne (Ne.symm e)
    cases on <;> simp [Nat.testBit_and, Nat.testBit_or, hm, h2, e]
/-- One byte turned. -/
def setB (d : ByteArray) (i : Nat) (on : Bool) : ByteArray := ⟨d.data.setIfInBounds (i / 8) (UInt8.ofNat (setN (d.data.getD (i / 8) 0).toNat (i % 8) on))⟩
theorem setB_size (d : ByteArray) (i : Nat) (on : Bool) : (setB d i on).size = d.size := by
  unfold setB ByteArray.size; simp
theorem setB_bit (d : ByteArray) (i j : Nat) (on : Bool) (hi : i / 8 < d.size) : bitOf (setB d i on) j = if j = i then on else bitOf d j := by
  have hd : i / 8 < d.data.size := hi
  unfold bitOf setB
  by_cases e : j / 8 = i / 8
  · rw [e, Array.getD_eq_getD_getElem?, Array.getElem?_setIfInBounds_self_of_lt hd]
    simp only [Option.getD_some]
    have hl := setN_lt (d.data.getD (i / 8) 0) (i % 8) (Nat.mod_lt _ (by omega)) on
    rw [UInt8.toNat_ofNat_of_lt' (by simpa using hl), setN_bit _ _ _ (Nat.mod_lt _ (by omega)) (Nat.mod_lt _ (by omega))]
    by_cases e2 : j = i
    · rw [if_pos e2, if_pos (by rw [e2])]
    · rw [if_neg e2, if_neg (by omega)]
  · rw [if_neg (by intro h; rw [h] at e; exact e rfl), Array.getD_eq_getD_getElem?, Array.getElem?_setIfInBounds_ne (Ne.symm e), ← Array.getD_eq_getD_getElem?]
/-- The map: does page id belong to somebody? -/
def ownB (m : Pg) (id : Nat) : Bool := bitOf (m.c (id / 272)).d (id % 272)
def putC (p : Pg) (q : Nat) (c : Ce) : Pg := ⟨p.k, p.l, p.s, p.n, fun i => if i = q then c else p.c i⟩
def mrk (m : Pg) (id : Nat) (on : Bool) : Pg := putC m (id / 272) ⟨(m.c (id / 272)).st, setB (m.c (id / 272)).d (id % 272) on⟩
/-- A map whose cells have 34 bytes each. -/
def Ch (m : Pg) : Prop := m.k = 2 ∧ ∀ i, i < 6 → (m.c i).d.size = 34
theorem mrk_ch {m : Pg} (h : Ch m) (id : Nat) (on : Bool) : Ch (mrk m id on) := by
  refine ⟨h.1, fun i hi => ?_⟩
  unfold mrk putC
  dsimp only
  by_cases e : i = id / 272
  · rw [if_pos e]
    show (setB _ _ _).size = 34
    rw [setB_size, ← e]
    exact h.2 i hi
  · rw [if_neg e]; exact h.2 i hi
theorem mrk_own {m : Pg} (h : Ch m) (id j : Nat) (on : Bool) (hi : id < 1632) : ownB (mrk m id on) j = if j = id then on else ownB m j := by
  have hs := h.2 (id / 272) (by omega)
  unfold ownB mrk putC
  dsimp only
  by_cases e : j / 272 = id / 272
  · rw [if_pos e]
    dsimp only
    rw [setB_bit _ _ _ _ (by rw [hs]; omega), e]
    by_cases e2 : j = id
    · rw [if_pos e2, if_pos (by rw [e2])]
    · rw [if_neg e2, if_neg (by omega)]
  · rw [if_neg e, if_neg (by intro h; rw [h] at e; exact e rfl)]
end Go.Proofs.YtelbioooggnbiaaGreat
namespace Go.Proofs.YtelbioooggnbiaaGreat
open Go.RowKit

set_option maxRecDepth 100000 in
set_option maxHeartbeats 1000000 in
theorem owned_any (p : Pg) (id : Nat) (w : World) (h : id < 1632) (hd : (p.c (id / 272)).d.size = 34) :
    Calls Tryz.prog 37 #[.agg p.cs, .int .i64 id] w fun e w' => e = .returned (.bool (ownB p id)) ∧ Below w.heap.size w w' := by
  have E := Lib.hid (show ∀ (b k : Nat) (hb : b < (p.c (id / 272)).d.size), b = id % 272 / 8 → k = id % 8 → ((p.c (id / 272)).d[b]'hb).toNat.testBit k = ownB p id from fun b k hb e1 e2 => by
    unfold ownB bitOf
    have e3 : (id % 272) % 8 = id % 8 := by omega
    rw [e3, ← e2, ← e1, Array.getD_eq_getD_getElem?, Array.getElem?_eq_getElem hb]
    rfl)
  have K := Lib.hid (Bk.new w 38 p.cs)
  have B0 := Lib.hid ((Below.refl w.heap.size w).alloc (Nat.le_refl _) (.cells p.cs 38))
  go_enter Tryz.func37, Tryz.ntmps37
  go_upto_region 1 with fail
  generalize w.alloc (.cells p.cs 38) = w0 at *
  obtain ⟨G, hG⟩ : ∃ G, G = w.heap.size := ⟨_, rfl⟩
  rw [← hG] at K ⊢
  clear hG
  obtain ⟨q, hq⟩ : ∃ q, q = id / 272 := ⟨_, rfl⟩
  obtain ⟨m, hm⟩ : ∃ m, m = id % 272 := ⟨_, rfl⟩
  obtain ⟨b, hb⟩ : ∃ b, b = m / 8 := ⟨_, rfl⟩
  obtain ⟨k, hk⟩ : ∃ k, k = id % 8 := ⟨_, rfl⟩
  have hq6 : q < 6 := by omega
  have hq2 : (id : Int) / 272 = (q : Int) := by omega
  have hm2 : (id : Int) % 272 = (m : Int) := by omega
  have hb2 : (m : Int) / 8 = (b : Int) := by omega
  have hk2 : (id : Int) % 8 = (k : Int) := by omega
  have hb34 : b < 34 := by omega
  have hk8 : k < 8 := by omega
  have hm272 : m < 272 := by omega
  rw [← hq] at hd E
  have E2 := Lib.hid (fun hb0 => E.out b k hb0 (by rw [hb, hm]) hk)
  have AB := Lib.hid (fun x => and_bit x k hk8)
  clear E
  have c0 : w0.cell? ⟨G, 4 + q * 2 + 1, none⟩ = some (.string (p.c q).d) := by
    rw [K.out.cell]; rcases six hq6 with h | h | h | h | h | h <;> rw [h] <;> rfl
  have HD := Lib.hid hd
  generalize (p.c q).d = d at *
  clear hq hm hb hk hd
  have hs := HD.out
  have hbs : (b : Int) < (d.size : Int) := by omega
  go_wp2_with fail
  go_ret
  exact ⟨by rw [AB.out, E2.out]; rfl, B0.out⟩
set_option maxRecDepth 100000 in
theorem count_any (p : Pg) (w : World) (h : 0 ≤ p.n ∧ p.n < 1024) :
    Calls Tryz.prog 36 #[.agg p.cs] w fun e w' => e = .returned (.int .i64 (p.n + 1)) ∧ Below w.heap.size w w' := by
  have K := Lib.hid (Bk.new w 38 p.cs)
  have B0 := Lib.hid ((Below.refl w.heap.size w).alloc (Nat.le_refl _) (.cells p.cs 38))
  obtain ⟨n, hn⟩ : ∃ n, n = p.n := ⟨_, rfl⟩
  rw [← hn] at h ⊢
  have HN := Lib.hid hn
  clear hn
  go_enter Tryz.func36, Tryz.ntmps36
  go_upto_region 1 with fail
  generalize w.alloc (.cells p.cs 38) = w0 at *
  obtain ⟨G, hG⟩ : ∃ G, G = w.heap.size := ⟨_, rfl⟩
  rw [← hG] at K ⊢
  clear hG
  have c0 : w0.cell? ⟨G, 3, none⟩ = some (.int .i64 n) := by rw [HN.out]; exact K.out.cell 3
  have hm : min (n + 1) 1632 = n + 1 := by omega
  go_wp2_with fail
  go_ret
  exact ⟨by first | rfl | (rw [hm]; rfl), B0.out⟩
theorem page_res1 {fn : Func} {p : Tmp} (hf : fn.results = #[.cell p 38]) (tmps : Array Value) (w : World) (g : Nat) (cs : Array Value) (h : Bk w g 38 cs) (hs : cs.size = 16) (hp : tmps.getD p undef = .pointer (some ⟨g, 0, none⟩)) :
    (results fn tmps).run Tryz.prog w = .ok (.agg cs) w := by
  have e := run_loadPage w g cs h hs
  simp only [results, hf]
  have : (Sem.run Tryz.prog (asAddr (tmps.getD p undef)) w) = .ok ⟨g, 0, none⟩ w := by rw [hp]; simp [asAddr, Sem.run_pure]
  simp [Sem.run_bind, Result.andThen]
  simp [Array.getD_eq_getD_getElem?] at this
  rw [this]
  simp [e]
/-- A block of bytes that may be written. -/
def Byt (w : World) (g : Nat) (d : ByteArray) : Prop := ∃ (C : Array Value) (lo hi : Nat), w.heap[g]? = some (.cells C 5 (lo, hi)) ∧ (d.size ≤ lo ∨ hi = 0) ∧ ∀ j, j < d.size → C[j]? = some (.int .u8 (d.data.getD j 0).toNat)
namespace Byt
variable {w w' : World} {g : Nat} {d : ByteArray}
theorem lt (h : Byt w g d) : g < w.heap.size := by obtain ⟨C, lo, hi, h, _⟩ := h; exact (Array.getElem?_eq_some_iff.1 h).1
theorem cell (h : Byt w g d) {j : Nat} (hj : j < d.size) : w.cell? ⟨g, j, none⟩ = some (.int .u8 (d.data.getD j 0).toNat) := by
  obtain ⟨C, lo, hi, h, _, hc⟩ := h
  rw [World.cell?, h]
  exact hc j hj
theorem fz (h : Byt w g d) {j : Nat} (hj : j < d.size) : w.frozen? ⟨g, j, none⟩ = false := by
  obtain ⟨C, lo, hi, h, hl, _⟩ := h
  rw [World.frozen?, h]
  simp
  omega
theorem kept (h : Byt w g d) (hb : Below w.heap.size w w') : Byt w' g d := by
  have hlt := h.lt
  obtain ⟨C, lo, hi, h, r⟩ := h
  exact ⟨C, lo, hi, (hb.block g hlt).trans h, r⟩
theorem set (h : Byt w g d) (b : Nat) (x : UInt8) (hb : b < d.size) : Byt (w.setCell ⟨g, b, none⟩ (.int .u8 x.toNat)) g ⟨d.data.setIfInBounds b x⟩ := by
  obtain ⟨C, lo, hi, h, hl, hc⟩ := h
  have hbd : b < d.data.size := hb
  have hsz : ByteArray.size ⟨d.data.setIfInBounds b x⟩ = d.size := Array.size_setIfInBounds
  refine ⟨C.setIfInBounds b (.int .u8 x.toNat), lo, hi, by simp [World.setCell, Array.getElem?_modify, h], by rw [hsz]; exact hl, fun j hj => ?_⟩
  rw [hsz] at hj
  have hcb : b < C.size := by
    have := hc b hb
    exact (Array.getElem?_eq_some_iff.1 this).1
  by_cases e : j = b
  · subst e
    rw [Array.getElem?_setIfInBounds_self_of_lt hcb, Array.getD_eq_getD_getElem?, Array.getElem?_setIfInBounds_self_of_lt hbd]
    rfl
  · rw [Array.getElem?_setIfInBounds_ne (Ne.symm e), Array.getD_eq_getD_getElem?, Array.getElem?_setIfInBounds_ne (Ne.symm e), ← Array.getD_eq_getD_getElem?]
    exact hc j hj
end Byt
section
variable {ops : Array Oper} {rest : List Oper} {o : Oper} {a : Act} {w : World} {Q : Exit → Act → World → Prop}
theorem conv_bytes (hg : o.guard = none) (x : Operand) (ho : o.op = .convert 9 95 x) (d : ByteArray) (hx : a.eval x = .string d)
    (h : ∀ cap w1, Below w.heap.size w w1 → Byt w1 w.heap.size d → wpList Tryz.prog ops Q rest (a.put o.dst (.slice (some ⟨w.heap.size, 0, none⟩) d.size cap)) w1) : wpList Tryz.prog ops Q (o :: rest) a w := by
  refine wpList_plain hg fun K' hK' => ?_
  have hr := run_bytes_of_string (P := Tryz.prog) w 9 95 5 d Tryz.underlying9 Tryz.underlying95 Tryz.underlying5
  unfold Oper.wp execOp
  simp only [ho, hx, Sem.run_bind, Sem.run_pure, Result.andThen_ok, hr]
  refine hK' _ _ (h _ _ ((Below.refl _ _).drew.alloc (Nat.le_refl _) _) ⟨_, _, _, heap_alloc_new w.drew _, ?_, fun j hj => ?_⟩)
  · left
    have hd : d.data.size = d.size := rfl
    simp [bytesRow, hd]
  · have hjd : j < d.data.size := hj
    simp [bytesRow, Array.getElem?_append, Array.getD_eq_getD_getElem?]
    rw [if_pos hj, Array.getElem?_eq_getElem hjd]
    rfl
theorem conv_back (hg : o.guard = none) (x : Operand) (ho : o.op = .convert 95 9 x) (g : Nat) (d : ByteArray) (n cap : Nat) (hn : n = d.size) (hx : a.eval x = .slice (some ⟨g, 0, none⟩) n cap) (hb : Byt w g d)
    (h : wpList Tryz.prog ops Q rest (a.put o.dst (.string d)) w) : wpList Tryz.prog ops Q (o :: rest) a w := by
  subst hn
  refine wpList_plain hg fun K' hK' => ?_
  have hr := run_convert_bytes_back (P := Tryz.prog) w 95 9 5 ⟨g, 0, none⟩ cap d.data.toList Tryz.underlying95 Tryz.underlying5 Tryz.underlying9 (fun j hj => by
    rw [Addr.add_lit, Nat.zero_add]
    have hj' : j < d.size := by simpa using hj
    rw [hb.cell hj', Array.getD_eq_getD_getElem?, ← Array.getElem?_toList, List.getElem?_eq_getElem hj]
    rfl)
  have hl : d.data.toList.length = d.size := Array.length_toList
  rw [hl] at hr
  unfold Oper.wp execOp
  simp only [ho, hx, Sem.run_bind, Sem.run_pure, Result.andThen_ok, hr]
  exact hK' _ _ h
end
theorem only_cell' (w : World) (t i : Nat) (u : Value) : w.grownBy (w.setCell ⟨t, i, none⟩ u) (some t) := ⟨rfl, rfl, rfl, by simp [World.setCell], fun q _ hq => Below.heap_setCell w ⟨t, i, none⟩ u q (fun e => hq (by rw [e]))⟩
set_option maxRecDepth 100000 in
set_option maxHeartbeats 2000000 in
theorem mark_any (p : Pg) (id : Nat) (on : Bool) (w : World) (h : id < 1632) (hd : (p.c (id / 272)).d.size = 34) :
    Calls Tryz.prog 38 #[.agg p.cs, .int .i64 id, .bool on] w fun e w' => e = .returned (.agg (mrk p id on).cs) ∧ Below w.heap.size w w' := by
  have K := Lib.hid ((Bk.new w 38 p.cs).alloc (.cells Pg.zero.cs 38))
  have R := Lib.hid (Bk.new2 w (.cells p.cs 38) 38 Pg.zero.cs)
  have B0 := Lib.hid (((Below.refl w.heap.size w).alloc (Nat.le_refl _) (.cells p.cs 38)).alloc (by simp) (.cells Pg.zero.cs 38))
  obtain ⟨q, hq⟩ : ∃ q, q = id / 272 := ⟨_, rfl⟩
  obtain ⟨m, hm⟩ : ∃ m, m = id % 272 := ⟨_, rfl⟩
  obtain ⟨b, hb⟩ : ∃ b, b = m / 8 := ⟨_, rfl⟩
  obtain ⟨k, hk⟩ : ∃ k, k = id % 8 := ⟨_, rfl⟩
  obtain ⟨d, hdd⟩ : ∃ d, d = (p.c q).d := ⟨_, rfl⟩
  obtain ⟨fin, hfin⟩ : ∃ fin, fin = mrk p id on := ⟨_, rfl⟩
  have hq6 : q < 6 := by omega
  have hq2 : (id : Int) / 272 = (q : Int) := by omega
  have hm2 : (id : Int) % 272 = (m : Int) := by omega
  have hb2 : (m : Int) / 8 = (b : Int) := by omega
  have hk2 : (id : Int) % 8 = (k : Int) := by omega
  have hb34 : b < 34 := by omega
  have hk8 : k < 8 := by omega
  have hm272 : m < 272 := by omega
  have hmk : m % 8 = k := by omega
  rw [← hq, ← hdd] at hd
  have FIN := Lib.hid (show fin = putC p q ⟨(p.c q).st, setB d m on⟩ by rw [hfin, hdd, hq, hm]; rfl)
  have SB := Lib.hid (show setB d m on = ⟨d.data.setIfInBounds b (UInt8.ofNat (setN (d.data.getD b 0).toNat k on))⟩ by unfold setB; rw [← hb, hmk])
  rw [← hfin]
  have HDD := Lib.hid hdd
  have HD := Lib.hid hd
  clear hq hm hb hk hd hdd hfin hmk
  go_enter Tryz.func38, Tryz.ntmps38
  go_upto_region 1 with fail
  change Code.wp _ _ _ _ ((w.alloc (.cells p.cs 38)).alloc (.cells Pg.zero.cs 38))
  generalize ((w.alloc (.cells p.cs 38)).alloc (.cells Pg.zero.cs 38)) = w0 at *
  obtain ⟨G, hG⟩ : ∃ G, G = w.heap.size := ⟨_, rfl⟩
  obtain ⟨R2, hR2⟩ : ∃ R2, R2 = w.heap.size + 1 := ⟨_, rfl⟩
  rw [← hR2] at R ⊢
  rw [← hG] at K ⊢
  have GR := Lib.hid (show G ≠ R2 ∧ w.heap.size ≤ G ∧ w.heap.size ≤ R2 by omega)
  clear hG hR2
  have c0 : w0.cell? ⟨G, 4 + q * 2 + 1, none⟩ = some (.string d) := by
    rw [K.out.cell, HDD.out]; rcases six hq6 with h | h | h | h | h | h <;> rw [h] <;> rfl
  have hs := HD.out
  have hbs : (b : Int) < (d.size : Int) := by omega
  go_upto_region 2 with (refine conv_bytes rfl _ rfl d rfl ?_; intro cap w1 hb1 hby)
  have B1 := Lib.hid (below_then B0.out hb1 B0.out.size)
  have K1 := Lib.hid (K.out.kept hb1)
  have R1 := Lib.hid (R.out.kept hb1)
  have Y1 := Lib.hid hby
  obtain ⟨H, hH⟩ : ∃ H, H = w0.heap.size := ⟨_, rfl⟩
  rw [← hH] at Y1 ⊢
  have GH := Lib.hid (show G < H ∧ R2 < H from by rw [hH]; exact ⟨K.out.lt, R.out.lt⟩)
  clear hb1 hby hH c0 B0 K R
  go_quiet (fail)
  have B2 := Lib.hid (below_drewN B1.out nq)
  have K2 := Lib.hid (K1.out.drewN nq)
  have R2' := Lib.hid (R1.out.drewN nq)
  have Y2 := Lib.hid (show Byt (w1.drewN nq) H d from Y1.out)
  clear B1 K1 R1 Y1
  generalize w1.drewN nq = w2 at *
  obtain ⟨x, hx⟩ : ∃ x, x = d.data.getD b 0 := ⟨_, rfl⟩
  obtain ⟨y1, hy1⟩ : ∃ y1, y1 = UInt8.ofNat (setN x.toNat k false) := ⟨_, rfl⟩
  obtain ⟨y2, hy2⟩ : ∃ y2, y2 = UInt8.ofNat (setN x.toNat k true) := ⟨_, rfl⟩
  have hpow : (2 : Int) ^ k % 256 = 2 ^ k := by
    have : ∀ j : Fin 8, (2 : Int) ^ j.val % 256 = 2 ^ j.val := by decide
    exact this ⟨k, hk8⟩
  have e1 : y1.toNat = clrN x.toNat k := by rw [hy1, UInt8.toNat_ofNat_of_lt' (by simpa using setN_lt x k hk8 false)]; rfl
  have e2 : y2.toNat = clrN x.toNat k ||| 2 ^ k := by rw [hy2, UInt8.toNat_ofNat_of_lt' (by simpa using setN_lt x k hk8 true)]; rfl
  have P1 := Lib.hid (show bits .andNot .u8 (x.toNat : Int) (2 ^ k % 256) = (y1.toNat : Int) by rw [hpow, clr_bit x k hk8, e1])
  have P2 := Lib.hid (show bits .or .u8 (y1.toNat : Int) (2 ^ k % 256) = (y2.toNat : Int) by rw [hpow, or_bit _ k (by rw [e1]; exact setN_lt x k hk8 false) hk8, e1, e2])
  have HBD := Lib.hid (show b < d.size by omega)
  have S1 := Lib.hid (show setB d m on = ⟨d.data.setIfInBounds b (if on then y2 else y1)⟩ by rw [SB.out, ← hx]; cases on <;> simp [hy1, hy2])
  have c2 : w2.cell? ⟨H, b, none⟩ = some (.int .u8 x.toNat) := by rw [hx]; exact Y2.out.cell HBD.out
  have f2 : w2.frozen? ⟨H, b, none⟩ = false := Y2.out.fz HBD.out
  have p1 := P1.out
  clear hx hy1 hy2 e1 e2 hpow
  go_upto_region 4 with fail
  have cellb : ∀ {wa : World} {u : Value}, wa.grownBy (wa.setCell ⟨H, b, none⟩ u) (some H) := fun {wa u} => ⟨rfl, rfl, rfl, by simp [World.setCell], fun q _ hq => Below.heap_setCell wa ⟨H, b, none⟩ u q (fun e => hq (by rw [e]))⟩
  have GHn : G ≠ H := by have := GH.out; omega
  have RHn : R2 ≠ H := by have := GH.out; omega
  have wH : w.heap.size ≤ H := by have := GH.out; have := GR.out; omega
  have Y3 := Lib.hid (Y2.out.set b y1 HBD.out)
  have K3 := Lib.hid (K2.out.far (p := ⟨H, b, none⟩) GHn (.int .u8 y1.toNat))
  have R3 := Lib.hid (R2'.out.far (p := ⟨H, b, none⟩) RHn (.int .u8 y1.toNat))
  have B3 := Lib.hid (bl_grow B2.out (cellb (wa := w2) (u := .int .u8 y1.toNat)) (fun j hj => by cases hj; exact wH) B2.out.size)
  clear K2 R2' B2 Y2 c2 f2
  generalize w2.setCell ⟨H, b, none⟩ (.int .u8 y1.toNat) = w3 at *
  have HSZ := Lib.hid hs
  have PUT := Lib.hid (show ∀ (d' : ByteArray), (putC p q ⟨(p.c q).st, d'⟩).cs = p.cs.setIfInBounds (4 + q * 2 + 1) (.string d') from fun d' => by
    unfold Pg.cs putC
    rcases six hq6 with h | h | h | h | h | h <;> subst h <;> simp)
  have FINISH : ∀ (w4 : World), Byt w4 H (setB d m on) → Bk w4 G 38 p.cs → Bk w4 R2 38 Pg.zero.cs → Below w.heap.size w w4 → w4.cell? ⟨G, 4 + q * 2 + 1, none⟩ = some (.string d) := fun w4 _ hk _ _ => by
    rw [hk.cell, HDD.out]; rcases six hq6 with h | h | h | h | h | h <;> rw [h] <;> rfl
  have FI := Lib.hid FINISH
  clear FINISH p1 GHn RHn wH
  cases on with
  | false =>
    have Y4 := Lib.hid (show Byt w3 H (setB d m false) by rw [S1.out]; exact Y3.out)
    have c3 : w3.cell? ⟨G, 4 + q * 2 + 1, none⟩ = some (.string d) := FI.out w3 Y4.out K3.out R3.out B3.out
    have f3 : w3.frozen? ⟨G, 4 + q * 2 + 1, none⟩ = false := K3.out.fz _
    have ZZ := Lib.hid (show (34 : Nat) = (setB d m false).size by rw [setB_size]; exact HSZ.out.symm)
    obtain ⟨d', hd'⟩ : ∃ d', d' = setB d m false := ⟨_, rfl⟩
    have Yd := Lib.hid (show Byt w3 H d' by rw [hd']; exact Y4.out)
    rw [← hd'] at ZZ FIN
    have K4 := Lib.hid (show Bk (w3.setCell ⟨G, 4 + q * 2 + 1, none⟩ (.string d')) G 38 fin.cs by rw [FIN.out, PUT.out]; exact K3.out.set _ _)
    have R4 := Lib.hid (R3.out.far (p := ⟨G, 4 + q * 2 + 1, none⟩) GR.out.1.symm (.string d'))
    have B4 := Lib.hid (bl_grow B3.out (only_cell' w3 G (4 + q * 2 + 1) (.string d')) (fun j hj => by cases hj; exact GR.out.2.1) B3.out.size)
    clear hd' Y4 K3 R3 B3
    go_upto_region 7 with (refine conv_back rfl _ rfl H d' 34 cap ZZ.out rfl Yd.out ?_)
    generalize w3.setCell ⟨G, 4 + q * 2 + 1, none⟩ (.string d') = w5 at *
    go_wp2_with (first | (refine load_page rfl _ rfl G fin rfl K4.out ?_) | (refine store_page rfl _ _ rfl R2 fin Pg.zero rfl rfl R4.out ?_))
    refine bodyPost_ret (page_res1 rfl _ _ R2 fin.cs (row_bk R4.out) rfl rfl) rfl ?_
    exact ⟨rfl, below_row B4.out GR.out.2.2⟩
  | true =>
    have p2 := P2.out
    have c2 : w3.cell? ⟨H, b, none⟩ = some (.int .u8 y1.toNat) := by
      have := Y3.out.cell (j := b) (by show b < (d.data.setIfInBounds b y1).size; rw [Array.size_setIfInBounds]; exact HBD.out)
      rw [this, Array.getD_eq_getD_getElem?, Array.getElem?_setIfInBounds_self_of_lt HBD.out]
      rfl
    have f2 : w3.frozen? ⟨H, b, none⟩ = false := Y3.out.fz (j := b) (by show b < (d.data.setIfInBounds b y1).size; rw [Array.size_setIfInBounds]; exact HBD.out)
    have Y4 := Lib.hid (show Byt (w3.setCell ⟨H, b, none⟩ (.int .u8 y2.toNat)) H (setB d m true) by
      have := Y3.out.set b y2 (by show b < (d.data.setIfInBounds b y1).size; rw [Array.size_setIfInBounds]; exact HBD.out)
      rw [S1.out]
      dsimp only at this
      rw [Array.setIfInBounds_setIfInBounds] at this
      exact this)
    have K4' := Lib.hid (K3.out.far (p := ⟨H, b, none⟩) (by have := GH.out; show G ≠ H; omega) (.int .u8 y2.toNat))
    have R4' := Lib.hid (R3.out.far (p := ⟨H, b, none⟩) (by have := GH.out; show R2 ≠ H; omega) (.int .u8 y2.toNat))
    have B4' := Lib.hid (bl_grow B3.out (only_cell' w3 H b (.int .u8 y2.toNat)) (fun j hj => by cases hj; have := GH.out; have := GR.out; omega) B3.out.size)
    clear Y3 K3 R3 B3
    go_upto_region 6 with fail
    generalize w3.setCell ⟨H, b, none⟩ (.int .u8 y2.toNat) = w4 at *
    have c3 : w4.cell? ⟨G, 4 + q * 2 + 1, none⟩ = some (.string d) := FI.out w4 Y4.out K4'.out R4'.out B4'.out
    have f3 : w4.frozen? ⟨G, 4 + q * 2 + 1, none⟩ = false := K4'.out.fz _
    have ZZ := Lib.hid (show (34 : Nat) = (setB d m true).size by rw [setB_size]; exact HSZ.out.symm)
    obtain ⟨d', hd'⟩ : ∃ d', d' = setB d m true := ⟨_, rfl⟩
    have Yd := Lib.hid (show Byt w4 H d' by rw [hd']; exact Y4.out)
    rw [← hd'] at ZZ FIN
    have K4 := Lib.hid (show Bk (w4.setCell ⟨G, 4 + q * 2 + 1, none⟩ (.string d')) G 38 fin.cs by rw [FIN.out, PUT.out]; exact K4'.out.set _ _)
    have R4 := Lib.hid (R4'.out.far (p := ⟨G, 4 + q * 2 + 1, none⟩) GR.out.1.symm (.string d'))
    have B4 := Lib.hid (bl_grow B4'.out (only_cell' w4 G (4 + q * 2 + 1) (.string d')) (fun j hj => by cases hj; exact GR.out.2.1) B4'.out.size)
    clear hd' Y4 K4' R4' B4'
    go_upto_region 7 with (refine conv_back rfl _ rfl H d' 34 cap ZZ.out rfl Yd.out ?_)
    generalize w4.setCell ⟨G, 4 + q * 2 + 1, none⟩ (.string d') = w5 at *
    go_wp2_with (first | (refine load_page rfl _ rfl G fin rfl K4.out ?_) | (refine store_page rfl _ _ rfl R2 fin Pg.zero rfl rfl R4.out ?_))
    refine bodyPost_ret (page_res1 rfl _ _ R2 fin.cs (row_bk R4.out) rfl rfl) rfl ?_
    exact ⟨rfl, below_row B4.out GR.out.2.2⟩
end Go.Proofs.YtelbioooggnbiaaGreat
