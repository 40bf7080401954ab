/- The walks of the document's own frames. Pages compared; pages stored. A block of pages, one behind the other: loaded, stored. Regions that draw their order and whose calls make memory only: one walk in the order of the text, in the class of worlds that keep every block. No program in sight. The walk of the reference Right, of pages. The walk of the document's own Encode. The walk of the document's own Decode. -/
import Derived.Test.YtgafajbdmegfgaaGreatFrameWalk
import Derived.Test.YtgafajbdmegfgaaGreatPgDec
import Derived.Test.YtgafajbdmegfgaaGreatPgCmp
import Derived.Laws.StructEq
import Derived.ChangeKeysEq
import Derived.Deep.WholeRow
import Derived.Test.YtgafajbdmegfgaaGreatPgPlain
import Derived.Test.YtgafajbdmegfgaaGreatProg
import Derived.Deep.MidRow
import Derived.Test.YtgafajbdmegfgaaGreatBk
import Derived.Deep.QuietTactic
import Derived.BigQuiet
import Derived.Test.YtgafajbdmegfgaaGreatPgWalk
import Derived.Test.YtgafajbdmegfgaaGreatPgEnc
import Derived.Deep.RegionHeldLaw
import Derived.Test.YtgafajbdmegfgaaGreatOctVal
import Derived.Deep.RegionHeld3
set_option linter.unusedVariables false
set_option linter.unusedSimpArgs false
set_option linter.unusedSectionVars false
namespace Go.Proofs.YtgafajbdmegfgaaGreat
open Go.RowKit

set_option maxHeartbeats 1000000 in
theorem ropen_any (s : Nat → ByteArray) (w : World) (hs : ∀ i, i < 4 → (s i).size ≤ maxLen) :
    Calls Tryz.prog 40 #[Fr.sv s] w fun e w' => e = .returned (.tuple #[.string (Fr.opened s).1, .int .u64 (Fr.opened s).2.1, .int .i64 (Fr.opened s).2.2]) ∧ Below w.heap.size w w' := by
  unfold maxLen at hs
  have HS := Lib.hid hs; clear hs
  unfold Fr.sv
  go_enter Tryz.func40, Tryz.ntmps40
  go_wp2
  have g0 : Bk (w.alloc (.cells #[.string (s 0), .string (s 1), .string (s 2), .string (s 3)] 95)) w.heap.size 95 (Fr.arr s) := Bk.new _ _ _
  have hB : Below w.heap.size w (w.alloc (.cells #[.string (s 0), .string (s 1), .string (s 2), .string (s 3)] 95)) := (Below.refl _ _).alloc (Nat.le_refl _) _
  generalize w.alloc (.cells #[.string (s 0), .string (s 1), .string (s 2), .string (s 3)] 95) = w1 at g0 hB ⊢
  go_loopw [5, 6] (fun b i wr => ∃ (k : Nat) (bk : ByteArray), k ≤ 4 ∧ i = .int .i64 k ∧ b = .string bk ∧ bk.size = 56 * k ∧ Fr.opened s = Fr.openG s (4 - k) k bk ∧ (1 ≤ k → (s 0).size = 64) ∧ Bk wr w.heap.size 95 (Fr.arr s) ∧ Below w.heap.size w wr) (fun _ i _ => 4 - (intOf i).toNat)
  case atStart => exact ⟨0, ⟨#[]⟩, Nat.zero_le _, rfl, rfl, rfl, rfl, fun h => absurd h (by omega), g0, hB⟩
  case round =>
    clear g0 hB
    obtain ⟨k, bk, hk, rfl, rfl, hbk, hop, h64, g0, hB⟩ := hrel
    have c0 := g0.cell 0
    have hcell : ∀ i, i < 4 → wr.cell? ⟨w.heap.size, i, none⟩ = some (.string (s i)) := fun i hi => (g0.cell i).trans (Fr.arr_get s i hi)
    have HCELL := Lib.hid hcell; clear hcell
    simp only [Fr.arr, List.getElem?_toArray, List.getElem?_cons_zero] at c0
    have G0 := Lib.hid g0; have HB := Lib.hid hB; clear g0 hB
    have hbk' : bk.size ≤ 224 := by omega
    have HBK := Lib.hid hbk; clear hbk
    by_cases hlt : k < 4
    · have ck := HCELL.out k hlt
      have hsk := HS.out k hlt
      by_cases h1 : (s k).size = 64
      · have hne : (((s k).size : Int) != 64) = false := by simp [h1]
        have hge : 64 ≤ (s k).size := by omega
        have h0 : 64 ≤ (s 0).size := by
          by_cases e : k = 0
          · subst e; exact hge
          · have := h64 (by omega); omega
        have h064 : (s 0).size = 64 := by
          by_cases e : k = 0
          · subst e; exact h1
          · exact h64 (by omega)
        by_cases h2 : Fr.tl (s k) = Fr.tl (s 0)
        · have hstep := Fr.openG_step (b := bk) hlt h1 h2
          have e2 : (s k).extract 56 (s k).size = (s 0).extract 56 (s 0).size := h2
          have hcat : bk.size + ((s k).extract 0 56).size ≤ 9223372036854775807 := by rw [ByteArray.size_extract]; omega
          have hsz2 : (bk ++ (s k).extract 0 56).size = 56 * (k + 1) := by
            have := HBK.out
            rw [ByteArray.size_append, ByteArray.size_extract]; omega
          have HST := Lib.hid (hop.trans hstep); have HSZ := Lib.hid hsz2; have H064 := Lib.hid h064
          clear hop hstep hsz2 h1 h2 h064 h64
          go_wp2_with fail
          go_quiet (fail)
          go_wp2
          go_roundw
          case rel => exact ⟨k + 1, bk ++ (s k).extract 0 56, by omega, by go_num, rfl, HSZ.out, HST.out, fun _ => H064.out, G0.out, below_drewN HB.out _⟩
          case measure => simp [intOf]; omega
        · have hstep := Fr.openG_torn (b := bk) hlt h1 h2
          have h3 := str_ne (a := (s k).extract 56 (s k).size) (b := (s 0).extract 56 (s 0).size) h2
          have HOP := Lib.hid (hop.trans hstep)
          clear hop hstep h1 h2 h064 h64
          go_wp2_with fail
          go_quiet (fail)
          go_wp2
          go_ret3
          exact ⟨by rw [HOP.out]; rfl, below_drewN HB.out _⟩
      · have hne : (((s k).size : Int) != 64) = true := by simp; omega
        have HOP := Lib.hid (hop.trans (Fr.openG_arg hlt h1))
        clear hop h1 h64
        go_wp2
        go_ret3
        exact ⟨by rw [HOP.out]; rfl, HB.out⟩
    · obtain rfl : 4 = k := by omega
      have h064 := h64 (by omega)
      have h0 : 64 ≤ (s 0).size := by omega
      have c := fun w => rval_good ((s 0).extract 56 (s 0).size) w (by rw [ByteArray.size_extract]; omega) (by rw [ByteArray.size_extract]; omega)
      have C := Lib.hid c
      have HOP := Lib.hid hop
      clear hop c h064 h64
      go_wp2_with fail
      refine (C.out _).mono ?_
      rintro e w2 ⟨rfl, hb2⟩
      have hB2 := below_then HB.out hb2 HB.out.size
      clear hb2
      go_wp2
      go_ret3
      exact ⟨by rw [HOP.out]; rfl, hB2⟩

end Go.Proofs.YtgafajbdmegfgaaGreat
namespace Go.Proofs.YtgafajbdmegfgaaGreat
open Go.RowKit

end Go.Proofs.YtgafajbdmegfgaaGreat
namespace Go.Proofs.YtgafajbdmegfgaaGreat
open Go.RowKit

def flatPg (ps : List Pg) : List Value := ps.flatMap fun p => p.cs.toList
theorem pg_len (p : Pg) : p.cs.toList.length = 16 := rfl
theorem flat_len : ∀ ps : List Pg, (flatPg ps).length = ps.length * 16
  | [] => rfl
  | p :: ps => by
    have := flat_len ps
    show (p.cs.toList ++ flatPg ps).length = (ps.length + 1) * 16
    rw [List.length_append, pg_len, this]; omega
theorem flat_get : ∀ (ps : List Pg) (i : Nat) (p : Pg), ps[i]? = some p → ∀ j, j < 16 → (flatPg ps)[i * 16 + j]? = p.cs[j]?
  | [], i, p, h, j, hj => by simp at h
  | q :: ps, 0, p, h, j, hj => by
    simp at h
    subst h
    show (q.cs.toList ++ flatPg ps)[0 * 16 + j]? = _
    rw [Nat.zero_mul, Nat.zero_add, List.getElem?_append_left (by rw [pg_len]; exact hj)]
    simp
  | q :: ps, i + 1, p, h, j, hj => by
    have := flat_get ps i p (by simpa using h) j hj
    show (q.cs.toList ++ flatPg ps)[(i + 1) * 16 + j]? = _
    rw [List.getElem?_append_right (by rw [pg_len]; omega), pg_len, show (i + 1) * 16 + j - 16 = i * 16 + j by omega]
    exact this
/-- Cells laid over others, from a place on. -/
def lay (cs : Array Value) : Nat → List Value → Array Value
  | _, [] => cs
  | o, v :: vs => lay (cs.setIfInBounds o v) (o + 1) vs
theorem lay_size : ∀ (vs : List Value) (cs : Array Value) (o : Nat), (lay cs o vs).size = cs.size
  | [], cs, o => rfl
  | v :: vs, cs, o => by show (lay (cs.setIfInBounds o v) (o + 1) vs).size = _; rw [lay_size vs]; simp
theorem lay_get : ∀ (vs : List Value) (cs : Array Value) (o j : Nat), o + vs.length ≤ cs.size → (lay cs o vs)[j]? = if o ≤ j ∧ j < o + vs.length then vs[j - o]? else cs[j]?
  | [], cs, o, j, h => by
    rw [if_neg (fun h => by have := h.2; rw [List.length_nil] at this; omega)]; rfl
  | v :: vs, cs, o, j, h => by
    rw [List.length_cons] at h
    show (lay (cs.setIfInBounds o v) (o + 1) vs)[j]? = _
    rw [lay_get vs _ (o + 1) j (by simp; omega), List.length_cons]
    by_cases h1 : o + 1 ≤ j ∧ j < o + 1 + vs.length
    · rw [if_pos h1, if_pos ⟨by omega, by omega⟩, show j - o = (j - (o + 1)) + 1 by omega, List.getElem?_cons_succ]
    · rw [if_neg h1]
      by_cases h2 : j = o
      · subst h2
        rw [if_pos ⟨Nat.le_refl _, by omega⟩, Nat.sub_self, Array.getElem?_setIfInBounds_self_of_lt (by omega)]
        rfl
      · rw [if_neg (by omega), Array.getElem?_setIfInBounds_ne (by omega)]
theorem Bk.lays {g : Nat} {t : TypeId} : ∀ (vs : List Value) (w : World) (cs : Array Value) (o : Nat), Bk w g t cs → Bk (w.setCells g o vs) g t (lay cs o vs)
  | [], w, cs, o, h => h
  | v :: vs, w, cs, o, h => Bk.lays vs _ _ (o + 1) (h.set o v)
theorem setCells_other (g k : Nat) : ∀ (vs : List Value) (w : World) (o : Nat), k ≠ g → (w.setCells g o vs).heap[k]? = w.heap[k]?
  | [], w, o, h => rfl
  | v :: vs, w, o, h => (setCells_other g k vs _ (o + 1) h).trans (Below.heap_setCell w ⟨g, o, none⟩ v k h)
theorem setCells_size (g : Nat) : ∀ (vs : List Value) (w : World) (o : Nat), (w.setCells g o vs).heap.size = w.heap.size ∧ (w.setCells g o vs).os = w.os ∧ (w.setCells g o vs).tape = w.tape ∧ (w.setCells g o vs).output = w.output
  | [], w, o => ⟨rfl, rfl, rfl, rfl⟩
  | v :: vs, w, o => by
    obtain ⟨a, b, c, d⟩ := setCells_size g vs (w.setCell ⟨g, o, none⟩ v) (o + 1)
    exact ⟨a.trans (by simp [World.setCell]), b, c, d⟩
/-- Only block g turns. -/
theorem setCells_only (w : World) (g o : Nat) (vs : List Value) : w.grownBy (w.setCells g o vs) (some g) := by
  obtain ⟨a, b, c, d⟩ := setCells_size g vs w o
  exact ⟨b, c, d, Nat.le_of_eq a.symm, fun k _ hk => setCells_other g k vs w o (fun e => hk (by rw [e]))⟩
/-- Block g is these pages. -/
def PRow (w : World) (g : Nat) (ps : List Pg) : Prop := Bk w g 41 (flatPg ps).toArray
theorem flat_set (ps : List Pg) (i : Nat) (p : Pg) (hi : i < ps.length) : lay (flatPg ps).toArray (i * 16) p.cs.toList = (flatPg (ps.set i p)).toArray := by
  have hl := flat_len ps
  apply Array.ext_getElem?
  intro j
  rw [lay_get _ _ _ _ (by rw [pg_len]; simp; omega), pg_len]
  have hl2 := flat_len (ps.set i p)
  rw [List.length_set] at hl2
  by_cases hj : j < ps.length * 16
  · obtain ⟨q, r, hr, rfl⟩ : ∃ q r, r < 16 ∧ j = q * 16 + r := ⟨j / 16, j % 16, Nat.mod_lt _ (by omega), by omega⟩
    have hq : q < ps.length := by omega
    by_cases hqi : q = i
    · subst hqi
      rw [if_pos ⟨by omega, by omega⟩, List.getElem?_toArray, flat_get (ps.set q p) q p (by rw [List.getElem?_set_self hq]) r hr, show q * 16 + r - q * 16 = r by omega]
      simp
    · rw [if_neg (by omega), List.getElem?_toArray, List.getElem?_toArray, flat_get ps q _ (List.getElem?_eq_getElem hq) r hr, flat_get (ps.set i p) q ps[q] (by rw [List.getElem?_set_ne (Ne.symm hqi), List.getElem?_eq_getElem hq]) r hr]
  · rw [if_neg (by omega), Array.getElem?_eq_none (by simp; omega), Array.getElem?_eq_none (by simp; omega)]
namespace PRow
variable {w w' : World} {g : Nat} {ps : List Pg}
theorem lt (h : PRow w g ps) : g < w.heap.size := Bk.lt h
theorem kept (h : PRow w g ps) (hb : Below w.heap.size w w') : PRow w' g ps := Bk.kept h hb
theorem of_block (h : PRow w g ps) (hb : w'.heap[g]? = w.heap[g]?) : PRow w' g ps := hb.trans h
theorem range (h : PRow w g ps) {i : Nat} {p : Pg} (hi : ps[i]? = some p) : w.rangeAt g (i * 16) p.cs.toList := fun j v hv => by
  have hj : j < 16 := by have := (List.getElem?_eq_some_iff.1 hv).1; rwa [pg_len] at this
  rw [Bk.cell h, List.getElem?_toArray, flat_get ps i p hi j hj]
  simpa using hv
theorem there (h : PRow w g ps) {i : Nat} (hi : i < ps.length) : w.there g (i * 16) 16 := fun j hj => by
  refine ⟨?_, Bk.fz h _⟩
  rw [Bk.cell h, List.getElem?_toArray, flat_get ps i _ (List.getElem?_eq_getElem hi) j hj, Array.getElem?_eq_getElem (show j < (ps[i]).cs.size from hj)]
  rfl
theorem set (h : PRow w g ps) (i : Nat) (p : Pg) (hi : i < ps.length) : PRow (w.setCells g (i * 16) p.cs.toList) g (ps.set i p) := by
  have := Bk.lays p.cs.toList w _ (i * 16) h
  unfold PRow
  rw [← flat_set ps i p hi]
  exact this
end PRow
section
variable {ops : Array Oper} {rest : List Oper} {o : Oper} {a : Act} {w : World} {Q : Exit → Act → World → Prop}
theorem load_page_at (hgd : o.guard = none) (x : Operand) (ho : o.op = .load 41 x) (g : Nat) (ps : List Pg) (i : Nat) (p : Pg) (hi : ps[i]? = some p) (hx : a.eval x = .pointer (some ⟨g, i * 16, none⟩)) (hr : PRow w g ps)
    (h : wpList Tryz.prog ops Q rest (a.put o.dst (.agg p.cs)) w) : wpList Tryz.prog ops Q (o :: rest) a w :=
  wpList_load_mid hgd 41 x ho g (i * 16) hx p.cs.toList _ (hr.range hi) Tryz.underlying41 rfl (by rw [pg_len]; kernel_rfl) (by simpa using h)
theorem store_page_at (hgd : o.guard = none) (x y : Operand) (ho : o.op = .store 41 x y) (g : Nat) (ps : List Pg) (i : Nat) (p : Pg) (hi : i < ps.length) (hx : a.eval x = .pointer (some ⟨g, i * 16, none⟩)) (hy : a.eval y = .agg p.cs) (hr : PRow w g ps)
    (h : PRow (w.setCells g (i * 16) p.cs.toList) g (ps.set i p) → wpList Tryz.prog ops Q rest (a.put o.dst undef) (w.setCells g (i * 16) p.cs.toList)) : wpList Tryz.prog ops Q (o :: rest) a w :=
  wpList_store_mid hgd 41 x y ho g (i * 16) p.cs hx hy (hr.there hi) (by rw [show p.cs.size = 16 from rfl]; kernel_rfl) (by unfold Pg.cs; simp [Value.oneCell']) (h (hr.set i p hi))
end
end Go.Proofs.YtgafajbdmegfgaaGreat
namespace Go.Proofs.YtgafajbdmegfgaaGreat
open Go.RowKit

/-- The worlds in which all that stood in v stands as it stood. -/
def Kp (v : World) : Type := { w : World // Below v.heap.size v w }
instance (v : World) : Nonempty (Kp v) := ⟨⟨v, Below.refl _ _⟩⟩
theorem Kp.below {v : World} (x : Kp v) : Below v.heap.size v x.1 := x.2
theorem Kp.cell {v : World} (x : Kp v) {g k : Nat} {u : Value} (h : v.cell? ⟨g, k, none⟩ = some u) : x.1.cell? ⟨g, k, none⟩ = some u := by
  have hlt : g < v.heap.size := World.block_lt_of_cell? v _ h
  rw [x.2.cell (p := ⟨g, k, none⟩) hlt]; exact h
theorem Kp.bk {v : World} (x : Kp v) {g : Nat} {t : TypeId} {cs : Array Value} (h : Bk v g t cs) : Bk x.1 g t cs := h.kept x.2
section
variable {P : Program}
theorem wp_region_kept {id : Nat} {Q : Exit → Act → World → Prop} {a : Act} {w : World} {l : List Oper} (hm : P.follows .mixedOrders = true) (hB : Region.lexB .any l.toArray = true)
    (h : wpQuiet P l.toArray (fun w' => ∃ x : Kp w, w' = x.1) (fun a' => ∀ w', (∃ x : Kp w, w' = x.1) → Q .normal a' w') l a) : (Code.region id l.toArray true).wp P Q a w :=
  wp_region_quiet (C := fun w' => ∃ x : Kp w, w' = x.1) hm hB ⟨⟨{ w with drawn := w.drawn + 1 }, ⟨rfl, rfl, rfl, Nat.le_refl _, fun _ _ => rfl⟩⟩, rfl⟩ (by simpa using h)
theorem kp_call {v : World} {x : Kp v} {f : FuncId} {args : Array Value} {u : Value} (h : Calls P f args x.1 fun e w' => e = .returned u ∧ Below x.1.heap.size x.1 w') :
    Calls P f args x.1 fun e w'' => e = .returned u ∧ ∃ y : Kp v, w'' = y.1 :=
  h.mono fun e w' ⟨he, hb⟩ => ⟨he, ⟨w', x.2.trans (hb.mono x.2.size)⟩, rfl⟩
theorem kp_same {v : World} {x : Kp v} {f : FuncId} {args : Array Value} {u : Value} (h : Calls P f args x.1 fun e w' => e = .returned u ∧ x.1 = w') :
    Calls P f args x.1 fun e w'' => e = .returned u ∧ ∃ y : Kp v, w'' = y.1 :=
  h.mono fun e w' ⟨he, hb⟩ => ⟨he, x, hb.symm⟩
/-- A load whose value is known in every such world. -/
theorem kp_load {v : World} {o : Oper} {a : Act} {K : Act → Prop} (ty : TypeId) (y : Operand) (ho : o.op = .load ty y) (u : Value)
    (hr : ∀ x : Kp v, (execOp a.eval o).run P x.1 = .ok (.value u) x.1) (h : K (a.put o.dst u)) : o.quiet P a (fun w' => ∃ x : Kp v, w' = x.1) K :=
  ⟨u, fun w ⟨x, hx⟩ => by subst hx; unfold Oper.quietAt; rw [hr x]; exact ⟨rfl, rfl⟩, h⟩
end
end Go.Proofs.YtgafajbdmegfgaaGreat
namespace Go.Proofs.YtgafajbdmegfgaaGreat
open Go.RowKit

theorem rright_head (p : Pg) (w : World) (h : ¬ p.head) :
    Calls Tryz.prog 11 #[p.v] w fun e w' => e = .returned (.bool false) ∧ Below w.heap.size w w' := by
  obtain ⟨k, l, s, n, c⟩ := p
  unfold Pg.v Pg.cs
  unfold Pg.head at h
  simp only at h
  go_enter Tryz.func11, Tryz.ntmps11
  go_wp2_with fail
  all_goals
    go_ret
    exact ⟨rfl, (Below.refl _ _).alloc (Nat.le_refl _) _⟩
theorem rright_good (p : Pg) (w : World) (h : p.head) :
    Calls Tryz.prog 11 #[p.v] w fun e w' => e = .returned (.bool (decide p.ok)) ∧ Below w.heap.size w w' := by
  have ho1 : (∀ i, i < 6 → (p.c i).ok) → decide p.ok = true := fun hh => decide_eq_true ⟨h, hh⟩
  have ho2 : ∀ i, i < 6 → ¬ (p.c i).ok → decide p.ok = false := fun i hi hn => decide_eq_false fun hk => hn (hk.2 i hi)
  obtain ⟨k, l, s, n, c⟩ := p
  simp only at ho1 ho2
  have HO1 := Lib.hid ho1; have HO2 := Lib.hid ho2
  clear ho1 ho2
  generalize decide (⟨k, l, s, n, c⟩ : Pg).ok = K at *
  unfold Pg.v Pg.cs
  unfold Pg.head at h
  simp only at h
  go_enter Tryz.func11, Tryz.ntmps11
  go_wp2_with fail
  have hb : Bk (w.alloc (.cells #[.int .i64 k, .int .i64 l, .int .i64 s, .int .i64 n, .int .i64 (c 0).st, .string (c 0).d, .int .i64 (c 1).st, .string (c 1).d, .int .i64 (c 2).st, .string (c 2).d, .int .i64 (c 3).st, .string (c 3).d, .int .i64 (c 4).st, .string (c 4).d, .int .i64 (c 5).st, .string (c 5).d] 41)) w.heap.size 41 (Pg.cs ⟨k, l, s, n, c⟩) ∧ Below w.heap.size w (w.alloc (.cells #[.int .i64 k, .int .i64 l, .int .i64 s, .int .i64 n, .int .i64 (c 0).st, .string (c 0).d, .int .i64 (c 1).st, .string (c 1).d, .int .i64 (c 2).st, .string (c 2).d, .int .i64 (c 3).st, .string (c 3).d, .int .i64 (c 4).st, .string (c 4).d, .int .i64 (c 5).st, .string (c 5).d] 41)) := ⟨Bk.new _ _ _, (Below.refl w.heap.size w).alloc (Nat.le_refl _) _⟩
  generalize w.alloc (.cells #[.int .i64 k, .int .i64 l, .int .i64 s, .int .i64 n, .int .i64 (c 0).st, .string (c 0).d, .int .i64 (c 1).st, .string (c 1).d, .int .i64 (c 2).st, .string (c 2).d, .int .i64 (c 3).st, .string (c 3).d, .int .i64 (c 4).st, .string (c 4).d, .int .i64 (c 5).st, .string (c 5).d] 41) = w1 at *
  go_loopw [3] (fun i wr => ∃ j : Nat, j ≤ 6 ∧ i = .int .i64 j ∧ (∀ q, q < j → (c q).ok) ∧ Bk wr w.heap.size 41 (Pg.cs ⟨k, l, s, n, c⟩) ∧ Below w.heap.size w wr) (fun i _ => 6 - (intOf i).toNat)
  case atStart => exact ⟨0, by omega, rfl, (fun q hq => absurd hq (Nat.not_lt_zero _)), hb.1, hb.2⟩
  case round =>
    clear hb
    obtain ⟨j, hj, rfl, hq, hk, hb⟩ := hrel
    have HQ := Lib.hid hq; have HB := Lib.hid hb; have HK := Lib.hid hk
    clear hq hb
    by_cases hlt : j < 6
    · have c0 : wr.cell? ⟨w.heap.size, 4 + j * 2, none⟩ = some (.int .i64 (c j).st) := by rw [hk.cell]; rcases six hlt with rfl | rfl | rfl | rfl | rfl | rfl <;> rfl
      have c1 : wr.cell? ⟨w.heap.size, 4 + j * 2 + 1, none⟩ = some (.string (c j).d) := by rw [hk.cell]; rcases six hlt with rfl | rfl | rfl | rfl | rfl | rfl <;> rfl
      clear hk
      have B2 := Lib.hid (fun o => HB.out.alloc HB.out.size o); have K2 := Lib.hid (fun o => HK.out.alloc o)
      go_wp2_with fail
      all_goals first
        | (go_roundw
           case rel =>
             have hok : (c j).ok := by rw [Ce.ok_iff]; omega
             exact ⟨j + 1, by omega, by go_num, fun q hq => (by
               by_cases e : q = j
               · rw [e]; exact hok
               · exact HQ.out q (by omega)), K2.out _, B2.out _⟩
           case measure => simp [intOf]; omega)
        | (go_ret
           exact ⟨by rw [HO2.out j hlt (by rw [Ce.ok_iff]; omega)]; rfl, B2.out _⟩)
    · clear hk
      go_wp2
      go_ret
      exact ⟨by rw [HO1.out fun i hi => HQ.out i (by omega)]; rfl, HB.out⟩
theorem rright_any (p : Pg) (w : World) :
    Calls Tryz.prog 11 #[p.v] w fun e w' => e = .returned (.bool (decide p.ok)) ∧ Below w.heap.size w w' := by
  by_cases h : p.head
  · exact rright_good p w h
  · rw [decide_eq_false fun hk => h hk.1]
    exact rright_head p w h
end Go.Proofs.YtgafajbdmegfgaaGreat
namespace Go.Proofs.YtgafajbdmegfgaaGreat
open Go.RowKit

theorem run_zeros_at {P : Program} {w : World} {g : Nat} (src dst e : TypeId) (n : Nat)
    (hs : P.underlying src = some (.slice e)) (he : P.underlying e = some (.int .u8)) (hd : P.underlying dst = some .string) (h : Bk w g e (Fr.zc n)) :
    (convert src dst (.slice (some ⟨g, 0, none⟩) n n)).run P w = .ok (.string (Fr.zs n)) w := by
  rw [Oct.run_string _ src dst e _ n n (List.replicate n 0) hs he hd (by simp)]
  · simp [Fr.zs]
  · intro j v hv
    have hj : j < n := by
      have := (List.getElem?_eq_some_iff.1 hv).1
      simpa using this
    have e1 : ((⟨g, 0, none⟩ : Addr).add j) = ⟨g, j, none⟩ := by unfold Addr.add; split <;> simp_all
    rw [e1, h.cell]
    simp [Fr.zc, madeCells, hj, Nat.mod_one]
    simpa [hj] using hv
theorem rput1 (n : Int) (w : World) (h0 : 0 ≤ n) (h : n < 256) :
    Calls Tryz.prog 65 #[.int .i64 n, .int .i64 1] w fun e w' => e = .returned (.string (Oct.str n.toNat 1)) ∧ Below w.heap.size w w' := by
  obtain ⟨m, rfl⟩ := Int.eq_ofNat_of_zero_le h0
  exact put_any m 1 w (by omega) (by omega) (by omega) (by omega)
theorem rput2 (n : Int) (w : World) (h0 : 0 ≤ n) (h : n < 65536) :
    Calls Tryz.prog 65 #[.int .i64 n, .int .i64 2] w fun e w' => e = .returned (.string (Oct.str n.toNat 2)) ∧ Below w.heap.size w w' := by
  obtain ⟨m, rfl⟩ := Int.eq_ofNat_of_zero_le h0
  exact put_any m 2 w (by omega) (by omega) (by omega) (by omega)
theorem rput4 (n : Int) (w : World) (h0 : 0 ≤ n) (h : n < 4294967296) :
    Calls Tryz.prog 65 #[.int .i64 n, .int .i64 4] w fun e w' => e = .returned (.string (Oct.str n.toNat 4)) ∧ Below w.heap.size w w' := by
  obtain ⟨m, rfl⟩ := Int.eq_ofNat_of_zero_le h0
  exact put_any m 4 w (by omega) (by omega) (by omega) (by omega)
theorem rencode_bad (p : Pg) (w : World) (h : ¬ p.ok) :
    Calls Tryz.prog 42 #[p.v] w fun e w' => e = .returned (.tuple #[.string ⟨#[]⟩, .int .i64 1]) ∧ Below w.heap.size w w' := by
  have cc := fun w => rright_any p w
  rw [decide_eq_false h] at cc
  have CC := Lib.hid cc
  clear cc h
  unfold Pg.v Pg.cs at *
  go_enter Tryz.func42, Tryz.ntmps42
  go_wp2_with fail
  have hb := fun o => (Below.refl w.heap.size w).alloc (Nat.le_refl _) o
  refine (CC.out _).mono ?_
  rintro e w2 ⟨rfl, hb2⟩
  have HB := Lib.hid (below_then (hb _) hb2 (by simp))
  clear hb hb2 CC
  go_wp2
  go_ret2
  exact ⟨rfl, HB.out⟩
set_option maxHeartbeats 4000000 in
theorem rencode_good (p : Pg) (w : World) (h : p.ok) :
    Calls Tryz.prog 42 #[p.v] w fun e w' => e = .returned (.tuple #[.string p.bytes, .int .i64 0]) ∧ Below w.heap.size w w' := by
  have cc := fun w => rright_any p w
  rw [decide_eq_true h] at cc
  have CC := Lib.hid cc
  obtain ⟨k, l, s, n, c⟩ := p
  obtain ⟨⟨k0, k1, l0, l1, s0, s1, n0, n1⟩, hc⟩ := h
  dsimp only at k0 k1 l0 l1 s0 s1 n0 n1 hc
  have c1 := fun w => rput1 k w k0 (by omega)
  have c2 := fun w => rput1 l w l0 (by omega)
  have c3 := fun w => rput2 s w s0 (by omega)
  have c4 := fun w => rput4 n w n0 (by omega)
  obtain ⟨U, fin, hfe, hhb, hul, hus, hfin⟩ : ∃ (U : Nat → ByteArray) (fin : ByteArray), Pg.bytes ⟨k, l, s, n, c⟩ = fin ∧ U 0 = Oct.str k.toNat 1 ++ Oct.str l.toNat 1 ++ Oct.str s.toNat 2 ++ Oct.str n.toNat 4 ∧ (∀ j, U (j + 1) = U j ++ (c j).bytes) ∧ (∀ j, j ≤ 6 → (U j).size = 8 + 36 * j) ∧ fin = U 6 :=
    ⟨Pg.upTo ⟨k, l, s, n, c⟩, _, rfl, rfl, fun _ => rfl, Pg.upTo_size ⟨k, l, s, n, c⟩ hc, rfl⟩
  rw [hfe]
  have z1 : (Oct.str k.toNat 1).size = 1 := Oct.str_size _ _
  have z2 : (Oct.str l.toNat 1).size = 1 := Oct.str_size _ _
  have z3 : (Oct.str s.toNat 2).size = 2 := Oct.str_size _ _
  have z4 : (Oct.str n.toNat 4).size = 4 := Oct.str_size _ _
  generalize Oct.str k.toNat 1 = t1 at *
  generalize Oct.str l.toNat 1 = t2 at *
  generalize Oct.str s.toNat 2 = t3 at *
  generalize Oct.str n.toNat 4 = t4 at *
  have C1 := Lib.hid c1; have C2 := Lib.hid c2; have C3 := Lib.hid c3; have C4 := Lib.hid c4
  have HC := Lib.hid hc; have HHB := Lib.hid hhb; have HUS := Lib.hid hus; have HUL := Lib.hid hul; have HF := Lib.hid hfin
  clear hus hul hfin hfe hhb cc hc k0 k1 l0 l1 s0 s1 n0 n1 c1 c2 c3 c4
  have hbk : Bk (w.alloc (.cells (Pg.cs ⟨k, l, s, n, c⟩) 41)) w.heap.size 41 (Pg.cs ⟨k, l, s, n, c⟩) := Bk.new _ _ _
  have hb0 := (Below.refl w.heap.size w).alloc (Nat.le_refl _) (.cells (Pg.cs ⟨k, l, s, n, c⟩) 41)
  have HK0 := Lib.hid hbk; have HB0 := Lib.hid hb0
  clear hbk hb0
  unfold Pg.v
  generalize hcs : Pg.cs ⟨k, l, s, n, c⟩ = cs at *
  have hcs' := hcs
  unfold Pg.cs at hcs
  subst hcs
  go_enter Tryz.func42, Tryz.ntmps42
  go_wp2_with fail
  refine (CC.out _).mono ?_
  rintro e w2 ⟨rfl, hb2⟩
  have k2 := HK0.out.kept hb2
  rw [← hcs'] at k2
  have HK2 := Lib.hid k2; have HB2 := Lib.hid (below_then HB0.out hb2 (by simp))
  clear HK0 HB0 k2 hb2 CC hcs'
  go_wp2_with fail
  obtain ⟨x0, x1, x2, x3⟩ := pg_head HK2.out
  dsimp only at x0 x1 x2 x3
  go_region_held3 (fun w' => w'.cell? ⟨w.heap.size, 0, none⟩ = some (.int .i64 k) ∧ w'.cell? ⟨w.heap.size, 1, none⟩ = some (.int .i64 l) ∧ w'.cell? ⟨w.heap.size, 2, none⟩ = some (.int .i64 s) ∧ w'.cell? ⟨w.heap.size, 3, none⟩ = some (.int .i64 n)) (first | exact pg_head k6 | exact pg_head k5 | exact pg_head k4 | exact pg_head k3 | exact ⟨x0, x1, x2, x3⟩)
    (first
      | (go_simp; go_at_call_of 65 (Value.int .i64 k); refine (C1.out _).mono ?_; rintro e w3 ⟨rfl, hb3⟩; have k3 := (HK2.out.drew).kept hb3)
      | (go_simp; go_at_call_of 65 (Value.int .i64 l); refine (C2.out _).mono ?_; rintro e w4 ⟨rfl, hb4⟩; have k4 := k3.kept hb4)
      | (go_simp; go_at_call_of 65 (Value.int .i64 s); refine (C3.out _).mono ?_; rintro e w5 ⟨rfl, hb5⟩; have k5 := k4.kept hb5)
      | (go_simp; go_at_call_of 65 (Value.int .i64 n); refine (C4.out _).mono ?_; rintro e w6 ⟨rfl, hb6⟩; have k6 := k5.kept hb6))
  have HK6 := Lib.hid k6
  have HB6 := Lib.hid (below_then (below_then (below_then (below_then HB2.out.drew hb3 HB2.out.size) hb4 (by have := HB2.out.size; have := hb3.size; simp at this; omega)) hb5 (by have := HB2.out.size; have := hb3.size; have := hb4.size; simp at *; omega)) hb6 (by have := HB2.out.size; have := hb3.size; have := hb4.size; have := hb5.size; simp at *; omega))
  clear k3 k4 k5 k6 hb3 hb4 hb5 hb6 x0 x1 x2 x3 HK2 HB2 C1 C2 C3 C4
  go_wp2_with fail
  rw [← HHB.out]
  clear HHB
  have HH := Lib.hid (HK6.out.lt)
  go_loopw [4, 5] (fun x i wr => ∃ j : Nat, j ≤ 6 ∧ i = .int .i64 j ∧ x = .string (U j) ∧ Bk wr w.heap.size 41 (Pg.cs ⟨k, l, s, n, c⟩) ∧ Below w.heap.size w wr) (fun _ i _ => 6 - (intOf i).toNat)
  case atStart => exact ⟨0, by omega, rfl, rfl, HK6.out, HB6.out⟩
  case round =>
    clear HB6 HK6 HH
    obtain ⟨j, hj, rfl, rfl, hk, hb⟩ := hrel
    by_cases hlt : j < 6
    · have hok := (Ce.ok_iff _).1 (HC.out j hlt)
      have hu := HUL.out j
      have hz := HUS.out j hj
      have y0 : wr.cell? ⟨w.heap.size, 4 + j * 2, none⟩ = some (.int .i64 (c j).st) := by rw [hk.cell]; rcases six hlt with rfl | rfl | rfl | rfl | rfl | rfl <;> rfl
      have y1 : wr.cell? ⟨w.heap.size, 4 + j * 2 + 1, none⟩ = some (.string (c j).d) := by rw [hk.cell]; rcases six hlt with rfl | rfl | rfl | rfl | rfl | rfl <;> rfl
      generalize U j = u at *
      generalize hu' : U (j + 1) = u' at *
      have HU' := Lib.hid hu'
      clear hu'
      generalize c j = cj at *
      obtain ⟨st, d⟩ := cj
      dsimp only [Ce.bytes] at hok hu y0 y1
      have c1 := fun w => rput1 st w hok.1 (by omega)
      have c2 := fun w => rput1 (d.size : Int) w (by omega) (by omega)
      rw [show ((d.size : Int)).toNat = d.size by omega] at c2
      have z1 : (Oct.str st.toNat 1).size = 1 := Oct.str_size _ _
      have z2 : (Oct.str d.size 1).size = 1 := Oct.str_size _ _
      have z3 : (Fr.zs (34 - d.size)).size = 34 - d.size := Fr.zs_size _
      have rz := fun wx g (h : Bk wx g 5 (Fr.zc (34 - d.size))) => run_zeros_at (w := wx) (g := g) 63 9 5 (34 - d.size) Tryz.underlying63 Tryz.underlying5 Tryz.underlying9 h
      obtain ⟨i0, hi, hz0, hz1, hz2⟩ := info_parts Tryz.info5
      have hmk := fun wx => run_make (P := Tryz.prog) wx 63 5 i0 (.int .u8 0) Tryz.underlying63 hi hz0 .i64 .i64 (34 - (d.size : Int)) (34 - (d.size : Int)) (by omega) (by omega) (by rw [hz2]; omega) (by omega)
      simp only [hz1, Nat.mul_one, Value.cells, show (34 - (d.size : Int)).toNat = 34 - d.size by omega] at hmk
      have hmk' : ∀ wx : World, (Instr.makeSlice 63 (.int .i64 (34 - (d.size : Int))) (.int .i64 (34 - (d.size : Int)))).run Tryz.prog wx = .ok (.slice (some ⟨wx.heap.size, 0, none⟩) (34 - d.size) (34 - d.size)) (wx.alloc (.cells (Fr.zc (34 - d.size)) 5)) := hmk
      clear hi hz0 hz1 hz2 hmk
      generalize Oct.str st.toNat 1 = t1 at *
      generalize Oct.str d.size 1 = t2 at *
      generalize Fr.zs (34 - d.size) = t3 at *
      have FF := Lib.hid (show t1.size + t2.size + d.size + t3.size + u.size ≤ 1000 by omega)
      have hsub : IntKind.i64.wrap (34 - (d.size : Int)) = 34 - (d.size : Int) := by simp [IntKind.wrap, IntKind.signed, IntKind.bits]; omega
      have hst := fun wx : World => rz (wx.alloc (.cells (Fr.zc (34 - d.size)) 5)) wx.heap.size (Bk.new _ _ _)
      have RZ := Lib.hid rz
      clear z1 z2 z3 hz hok rz
      have C1 := Lib.hid c1; have C2 := Lib.hid c2; have HU := Lib.hid hu
      have B7 := Lib.hid (hb.alloc hb.size (.cells #[.int .i64 st, .string d] 38))
      have K7 := Lib.hid (hk.alloc (.cells #[.int .i64 st, .string d] 38))
      have hbk : Bk (wr.alloc (.cells #[.int .i64 st, .string d] 38)) wr.heap.size 38 #[.int .i64 st, .string d] := Bk.new _ _ _
      have HBK := Lib.hid hbk
      clear c1 c2 hu hb hbk hk
      go_wp2_with fail
      generalize (wr.alloc (.cells #[.int .i64 st, .string d] 38)) = w7 at *
      have x0 := HBK.out.cell 0; have x1 := HBK.out.cell 1
      simp only [List.getElem?_toArray, List.getElem?_cons_zero, List.getElem?_cons_succ] at x0 x1
      have f0 := FF.out
      have n0 : ¬ 9223372036854775807 < t1.size + t2.size := by omega
      have n1 : ¬ 9223372036854775807 < t1.size + t2.size + d.size := by omega
      have n2 : ¬ 9223372036854775807 < t1.size + t2.size + d.size + t3.size := by omega
      have n3 : ¬ 9223372036854775807 < u.size + (t1.size + t2.size + d.size + t3.size) := by omega
      clear f0 y0 y1
      have hz7 : w.heap.size ≤ w7.heap.size := B7.out.size
      have s7 := RZ.out (w7.alloc (.cells (Fr.zc (34 - d.size)) 5)).drew w7.heap.size (Bk.new _ _ _).drew
      go_region_held_law (fun w' => w'.cell? ⟨wr.heap.size, 0, none⟩ = some (.int .i64 st) ∧ w'.cell? ⟨wr.heap.size, 1, none⟩ = some (.string d))
        (first
          | exact ⟨k9.cell 0, k9.cell 1⟩ | exact ⟨(k9.alloc _).cell 0, (k9.alloc _).cell 1⟩ | exact ⟨k8.cell 0, k8.cell 1⟩ | exact ⟨(k8.alloc _).cell 0, (k8.alloc _).cell 1⟩ | exact ⟨x0, x1⟩ | exact ⟨(HBK.out.alloc _).drew.cell 0, (HBK.out.alloc _).drew.cell 1⟩)
        (first
        | (go_simp; go_at_call_of 65 (Value.int .i64 st); refine (C1.out _).mono ?_; rintro e w8 ⟨rfl, hb8⟩
           have k8 : Bk w8 wr.heap.size 38 #[.int .i64 st, .string d] := (by first | exact HBK.out.drew.kept hb8 | exact (HBK.out.alloc _).drew.kept hb8)
           have g8 : Bk w8 w.heap.size 41 (Pg.cs ⟨k, l, s, n, c⟩) := (by first | exact K7.out.drew.kept hb8 | exact (K7.out.alloc _).drew.kept hb8)
           have b8 : Below w.heap.size w w8 := (by first | exact below_then B7.out.drew hb8 hz7 | exact below_then (B7.out.alloc hz7 _).drew hb8 (by simp; omega))
           have hz8 : w.heap.size ≤ w8.heap.size := b8.size
           first
             | (have m8 : Bk w8 w7.heap.size 5 (Fr.zc (34 - d.size)) := (Bk.new w7 _ _).drew.kept hb8
                have s8 := RZ.out _ _ m8)
             | skip)
        | (go_simp; go_at_call_of 65 (Value.int .i64 (d.size : Int)); refine (C2.out _).mono ?_; rintro e w9 ⟨rfl, hb9⟩
           have k9 : Bk w9 wr.heap.size 38 #[.int .i64 st, .string d] := (by first | exact k8.kept hb9 | exact (k8.alloc _).kept hb9)
           have g9 : Bk w9 w.heap.size 41 (Pg.cs ⟨k, l, s, n, c⟩) := (by first | exact g8.kept hb9 | exact (g8.alloc _).kept hb9)
           have b9 : Below w.heap.size w w9 := (by first | exact below_then b8 hb9 hz8 | exact below_then (b8.alloc hz8 _) hb9 (by simp; omega))
           have hz9 : w.heap.size ≤ w9.heap.size := b9.size
           first
             | (have m9 := m8.kept hb9
                have s9 := RZ.out _ _ m9)
             | (have m9 : Bk w9 w8.heap.size 5 (Fr.zc (34 - d.size)) := (Bk.new w8 _ _).kept hb9
                have s9 := RZ.out _ _ m9)
             | skip))
      all_goals
        have G9 := Lib.hid g9; have B9 := Lib.hid b9; have HZ9 := Lib.hid hz9
        clear g9 b9 hz9 k9 hb9 k8 g8 b8 hz8 hb8 s7 hz7 n0 n1 n2 n3 x0 x1 HBK K7 B7 C1 C2 RZ hst hsub hmk'
        go_wp2
        go_roundw
        case rel => first
          | exact ⟨j + 1, by omega, by go_num, by rw [HU'.out, HU.out], G9.out, B9.out⟩
          | exact ⟨j + 1, by omega, by go_num, by rw [HU'.out, HU.out], G9.out.alloc _, B9.out.alloc HZ9.out _⟩
        case measure => simp [intOf]; omega
    · have e6 : j = 6 := by omega
      have HE := Lib.hid (show U j = fin by rw [HF.out, e6])
      have HB := Lib.hid hb
      clear e6 hb hk
      go_wp2
      go_ret2
      refine ⟨?_, HB.out⟩
      rw [← HE.out]
      rfl
theorem rencode_any (p : Pg) (w : World) :
    Calls Tryz.prog 42 #[p.v] w fun e w' => e = .returned (.tuple #[.string p.enc, .int .i64 p.err]) ∧ Below w.heap.size w w' := by
  by_cases h : p.ok
  · rw [Pg.enc_ok h, Pg.err_ok h]; exact rencode_good p w h
  · rw [Pg.enc_no h, Pg.err_no h]; exact rencode_bad p w h
end Go.Proofs.YtgafajbdmegfgaaGreat
namespace Go.Proofs.YtgafajbdmegfgaaGreat
open Go.RowKit

theorem pg_cell {w : World} {g : Nat} {p : Pg} (h : Bk w g 41 p.cs) (j : Nat) (hj : j < 6) : w.cell? ⟨g, 4 + j * 2, none⟩ = some (.int .i64 (p.c j).st) ∧ w.cell? ⟨g, 4 + j * 2 + 1, none⟩ = some (.string (p.c j).d) := by
  rw [h.cell, h.cell]
  rcases six hj with rfl | rfl | rfl | rfl | rfl | rfl <;> exact ⟨rfl, rfl⟩
theorem of_good {s : ByteArray} (h : Good s) : Pg.dec s = Pg.of s ∧ decErr s = 0 := ⟨if_pos h, if_pos h⟩
theorem sval_at (x : ByteArray) (i : Nat) (h : i < x.size) : Oct.sval (x.extract i (i + 1)) = x[i].toNat := by
  rw [ByteArray.extract_add_one (by omega)]
  simp [Oct.sval, Oct.val]
theorem val_ex (s : ByteArray) (a b : Nat) (hb : b ≤ s.size) (h1 : a < b) (h2 : b ≤ a + 8) (w : World) :
    Calls Tryz.prog 41 #[.string (s.extract a b)] w fun e w' => e = .returned (.tuple #[.int .u64 (Oct.sval (s.extract a b)), .bool true]) ∧ Below w.heap.size w w' :=
  rval_good _ w (by rw [ex_size _ _ _ hb]; omega) (by rw [ex_size _ _ _ hb]; omega)
theorem rdec_results (tmps : Array Value) (w : World) (g : Nat) (cs : Array Value) (h : Bk w g 41 cs) (hs : cs.size = 16) (hp : tmps.getD 2 undef = .pointer (some ⟨g, 0, none⟩)) :
    (results Tryz.f17 tmps).run Tryz.prog w = .ok (.tuple #[.agg cs, tmps.getD 3 undef]) w := by
  rw [results_cell_tmp (p := 2) (u := 3) (ty := 41) rfl, hp]
  have := run_loadPage w g cs h hs
  simp [asAddr, Sem.run_pure, Result.andThen, this]

set_option maxHeartbeats 4000000 in
theorem rdecode_short (s : ByteArray) (w : World) (h : s.size ≠ 224) :
    Calls Tryz.prog 17 #[.string s] w fun e w' => e = .returned (.tuple #[Pg.zero.v, .int .i64 40]) ∧ Below w.heap.size w w' := by
  have hn : ((s.size : Int) == 224) = false := by simp; omega
  go_enter Tryz.func17, Tryz.ntmps17
  go_wp2
  refine bodyPost_ret (rdec_results _ _ w.heap.size Pg.zero.cs (Bk.new w _ _) rfl rfl) rfl ?_
  exact ⟨rfl, (Below.refl _ _).alloc (Nat.le_refl _) _⟩

set_option maxRecDepth 100000 in
set_option maxHeartbeats 8000000 in
theorem rdecode_long (s : ByteArray) (w : World) (hs : s.size = 224) :
    Calls Tryz.prog 17 #[.string s] w fun e w' => e = .returned (.tuple #[(Pg.dec s).v, .int .i64 (decErr s)]) ∧ Below w.heap.size w w' := by
  have hs64 : (s.size : Int) = 224 := by omega
  have h01 := sval1_lt (s.extract 0 1) (by rw [ex_size _ _ _ (by omega)])
  have h12 := sval1_lt (s.extract 1 2) (by rw [ex_size _ _ _ (by omega)])
  have h24 : Oct.sval (s.extract 2 4) < 65536 := by have := Oct.sval_lt (s.extract 2 4); rw [ex_size _ _ _ (by omega)] at this; exact this
  have h48 : Oct.sval (s.extract 4 8) < 4294967296 := by have := Oct.sval_lt (s.extract 4 8); rw [ex_size _ _ _ (by omega)] at this; exact this
  have c1 := val_ex s 0 1 (by omega) (by omega) (by omega)
  have c2 := val_ex s 1 2 (by omega) (by omega) (by omega)
  have c3 := val_ex s 2 4 (by omega) (by omega) (by omega)
  have c4 := val_ex s 4 8 (by omega) (by omega) (by omega)
  have ps : (⟨Oct.sval (s.extract 0 1), Oct.sval (s.extract 1 2), Oct.sval (s.extract 2 4), Oct.sval (s.extract 4 8), fun i => ⟨0, ⟨#[]⟩⟩⟩ : Pg).cs = (part s 0).cs := rfl
  generalize Oct.sval (s.extract 0 1) = n1 at h01 c1 ps
  generalize Oct.sval (s.extract 1 2) = n2 at h12 c2 ps
  generalize Oct.sval (s.extract 2 4) = n3 at h24 c3 ps
  generalize Oct.sval (s.extract 4 8) = n4 at h48 c4 ps
  have C1 := Lib.hid c1; have C2 := Lib.hid c2; have C3 := Lib.hid c3; have C4 := Lib.hid c4; have PS := Lib.hid ps
  clear c1 c2 c3 c4 ps
  go_enter Tryz.func17, Tryz.ntmps17
  go_wp2_with fail
  refine (C1.out _).mono ?_
  rintro e w1 ⟨rfl, hb1⟩
  have z1 : Bk w1 w.heap.size 41 Pg.zero.cs := (Bk.new w _ _).kept hb1
  have b1 : Below w.heap.size w w1 := below_then ((Below.refl _ _).alloc (Nat.le_refl _) (.cells Pg.zero.cs 41)) hb1 (by simp)
  have Z1 := Lib.hid z1; have B1 := Lib.hid b1
  clear z1 b1 hb1
  go_wp2_with fail
  refine (C2.out _).mono ?_
  rintro e w2 ⟨rfl, hb2⟩
  have Z2 := Lib.hid (Z1.out.kept hb2); have B2 := Lib.hid (below_then B1.out hb2 B1.out.size)
  clear hb2 Z1 B1
  go_wp2_with fail
  refine (C3.out _).mono ?_
  rintro e w3 ⟨rfl, hb3⟩
  have Z3 := Lib.hid (Z2.out.kept hb3); have B3 := Lib.hid (below_then B2.out hb3 B2.out.size)
  clear hb3 Z2 B2
  go_wp2_with fail
  refine (C4.out _).mono ?_
  rintro e w4 ⟨rfl, hb4⟩
  have Z4 := Lib.hid (Z3.out.kept hb4); have B4 := Lib.hid (below_then B3.out hb4 B3.out.size)
  clear hb4 Z3 B3 C1 C2 C3 C4
  go_wp2_with fail
  have kp : Bk (w4.alloc (.cells (⟨n1, n2, n3, n4, fun i => ⟨0, ⟨#[]⟩⟩⟩ : Pg).cs 41)) w4.heap.size 41 (⟨n1, n2, n3, n4, fun i => ⟨0, ⟨#[]⟩⟩⟩ : Pg).cs := Bk.new _ _ _
  have kz := Z4.out.alloc (.cells (⟨n1, n2, n3, n4, fun i => ⟨0, ⟨#[]⟩⟩⟩ : Pg).cs 41)
  have kb := B4.out.alloc B4.out.size (.cells (⟨n1, n2, n3, n4, fun i => ⟨0, ⟨#[]⟩⟩⟩ : Pg).cs 41)
  have hzlt := Z4.out.lt
  have hne : w4.heap.size ≠ w.heap.size := by omega
  have hle : w.heap.size ≤ w4.heap.size := by omega
  have HL := Lib.hid hle; have HN := Lib.hid hne
  clear hle hne hzlt
  have KP := Lib.hid kp; have KZ := Lib.hid kz; have KB := Lib.hid kb
  clear kp kz kb Z4 B4
  go_loopw [13] (fun i wr => ∃ j : Nat, j ≤ 6 ∧ i = .int .i64 j ∧ (∀ q, q < j → Oct.sval ((cellAt s q).extract 1 2) ≤ 34) ∧ Bk wr w4.heap.size 41 (part s j).cs ∧ Bk wr w.heap.size 41 Pg.zero.cs ∧ Below w.heap.size w wr) (fun i _ => 6 - (intOf i).toNat)
  case atStart =>
    refine ⟨0, by omega, rfl, fun q hq => absurd hq (Nat.not_lt_zero _), ?_, ?_, ?_⟩
    · rw [← PS.out]; exact KP.out
    · exact KZ.out
    · exact KB.out
  case round =>
    clear KP KZ KB
    obtain ⟨j, hj, rfl, hq, hp, hz, hb⟩ := hrel
    by_cases hlt : j < 6
    · obtain ⟨y0, y1⟩ := pg_cell hp j hlt
      have f0 := hp.fz (4 + j * 2)
      have f1 := hp.fz (4 + j * 2 + 1)
      have pn := part_next s j hlt
      have hxs := cellAt_size s hs j hlt
      obtain ⟨b1, b2, bd⟩ := cell_facts s j hs hlt
      have hx : s.extract (8 + 36 * j) (44 + 36 * j) = cellAt s j := rfl
      have hcj : ∀ n, Oct.sval ((cellAt s j).extract 1 2) = n → n ≤ 34 → ∀ q, q < j + 1 → Oct.sval ((cellAt s q).extract 1 2) ≤ 34 := fun n e hn q hq' => by
        by_cases e2 : q = j
        · rw [e2, e]; exact hn
        · exact hq q (by omega)
      have hbad : ∀ n, Oct.sval ((cellAt s j).extract 1 2) = n → ¬ n ≤ 34 → ¬ Good s := fun n e hn => not_good_cell s hs j hlt fun h => hn (e ▸ h.1)
      generalize cellAt s j = x at pn hxs b1 b2 bd hx hcj hbad
      have e1 := sval_at x 0 (by omega)
      have e2 := sval_at x 1 (by omega)
      have hde := ex_ex x 2 36 0 (Oct.sval (x.extract 1 2))
      simp only [Nat.zero_add, Nat.reduceAdd, Nat.add_zero] at e1 e2 hde
      rw [e1] at pn b1
      rw [e2] at pn b2 hcj hbad hde
      have HCJ := Lib.hid (hcj _ rfl); have HBAD := Lib.hid (hbad _ rfl)
      have HP := Lib.hid hp; have HZ := Lib.hid hz; have HB := Lib.hid hb; have PN := Lib.hid pn; have HDE := Lib.hid hde
      clear hq hp hz hb pn bd e1 e2 hde hcj hbad
      by_cases h34 : x[1].toNat ≤ 34
      · have hd := HDE.out (by omega)
        have hcs := HCJ.out h34
        have pn := PN.out
        rw [hd] at pn
        have PN' := Lib.hid pn; have HCS := Lib.hid hcs
        clear hd hcs pn HBAD HDE PN HCJ
        go_wp2_with fail
        have en : ∃ n, x[1].toNat = n := ⟨_, rfl⟩
        obtain ⟨n, en⟩ := en
        have e0 : ∃ n, x[0].toNat = n := ⟨_, rfl⟩
        obtain ⟨n0, e0⟩ := e0
        have b0 : n0 < 256 := by rw [← e0]; exact x[0].toNat_lt
        have pn := PN'.out
        rw [en, e0] at pn
        have kp := (HP.out.set (4 + j * 2) (.int .i64 n0)).set (4 + j * 2 + 1) (.string (x.extract 2 (2 + n)))
        rw [pn] at kp
        have kz := (HZ.out.far (p := ⟨w4.heap.size, 4 + j * 2, none⟩) (Ne.symm HN.out) (.int .i64 n0)).far (p := ⟨w4.heap.size, 4 + j * 2 + 1, none⟩) (Ne.symm HN.out) (.string (x.extract 2 (2 + n)))
        have kb := (HB.out.setCell (p := ⟨w4.heap.size, 4 + j * 2, none⟩) HL.out (.int .i64 n0)).setCell (p := ⟨w4.heap.size, 4 + j * 2 + 1, none⟩) HL.out (.string (x.extract 2 (2 + n)))
        have KP := Lib.hid kp.drew; have KZ := Lib.hid kz.drew; have KB := Lib.hid kb.drew
        clear pn kp kz kb PN' HP HZ HB
        rw [en]
        rw [en] at h34
        have m6 : IntKind.i64.wrap (n0 : Int) = n0 := by simp [IntKind.wrap, IntKind.signed, IntKind.bits]; omega
        have m1 : (2 : Int) ≤ 2 + (n : Int) := by omega
        have m2 : 2 + (n : Int) ≤ 36 := by omega
        have m0 : (0 : Int) ≤ 2 + (n : Int) := by omega
        have m3 : IntKind.i64.wrap (2 + (n : Int)) = 2 + (n : Int) := by simp [IntKind.wrap, IntKind.signed, IntKind.bits]; omega
        have m4 : (2 + (n : Int)).toNat = 2 + n := by omega
        have m5 : wrap64 (2 + (n : Int)) = 2 + (n : Int) := by unfold wrap64; omega
        go_region_held3 (fun _ => True) (trivial) (fail)
        go_wp2
        go_roundw
        case rel => exact ⟨j + 1, by omega, by go_num, HCS.out, KP.out, KZ.out, KB.out⟩
        case measure => simp [intOf]; omega
      · have hd := dec_bad s (HBAD.out h34)
        have HDG := Lib.hid hd
        have h34' : (34 : Int) < (x[1].toNat : Int) := by omega
        clear hd HBAD HCJ HDE PN HP
        go_wp2_with (refine store_page rfl _ _ rfl w.heap.size Pg.zero Pg.zero rfl rfl HZ.out ?_)
        refine bodyPost_ret (rdec_results _ _ w.heap.size Pg.zero.cs (setRow_heap _ _ _ _ _ _ HZ.out) rfl rfl) rfl ?_
        rw [HDG.out.1, HDG.out.2]
        exact ⟨rfl, below_setRow HB.out (Nat.le_refl _) _⟩
    · obtain rfl : j = 6 := by omega
      have HP := Lib.hid hp; have HZ := Lib.hid hz; have HB := Lib.hid hb; have HQ := Lib.hid hq
      clear hp hz hb hq
      have cr := fun w => rencode_any (part s 6) w
      have sm : (part s 6).bytes = (Pg.of s).bytes := Pg.upTo_same (p := part s 6) (q := Pg.of s) ⟨rfl, rfl, rfl, rfl, fun i hi => by simp [part, hi, Pg.of]⟩ 6 (by omega)
      have ok1 : (part s 6).ok → (Pg.of s).ok := fun h => Pg.ok_same (p := part s 6) ⟨rfl, rfl, rfl, rfl, fun i hi => by simp [part, hi, Pg.of]⟩ h
      have CR := Lib.hid cr
      clear cr
      go_wp2_with (refine load_page rfl _ rfl w4.heap.size (part s 6) rfl HP.out ?_)
      refine (CR.out _).mono ?_
      rintro e w5 ⟨rfl, hb5⟩
      have P5 := Lib.hid (HP.out.kept hb5); have Z5 := Lib.hid (HZ.out.kept hb5); have B5 := Lib.hid (below_then HB.out hb5 HB.out.size)
      clear hb5 HP HZ HB CR
      by_cases hk : (part s 6).ok
      · rw [Pg.enc_ok hk, Pg.err_ok hk, sm]
        by_cases hbs : (Pg.of s).bytes = s
        · rw [hbs]
          have hg : Good s := ⟨hs, ok1 hk, hbs⟩
          have HDG := Lib.hid (of_good hg)
          clear hg hk hbs sm ok1
          go_wp2_with (first | (refine load_page rfl _ rfl w4.heap.size (part s 6) rfl P5.out ?_) | (refine store_page rfl _ _ rfl w.heap.size (part s 6) Pg.zero rfl rfl Z5.out ?_))
          refine bodyPost_ret (rdec_results _ _ w.heap.size (part s 6).cs (setRow_heap _ _ _ _ _ _ Z5.out) rfl rfl) rfl ?_
          rw [HDG.out.1, HDG.out.2]
          exact ⟨by rw [part_last]; rfl, below_setRow B5.out (Nat.le_refl _) _⟩
        · have HDG := Lib.hid (dec_bad s fun hg => hbs hg.2.2)
          have hne2 : ((Pg.of s).bytes.toList == s.toList) = false := str_ne hbs
          clear hk hbs sm ok1
          generalize (Pg.of s).bytes = b at *
          go_wp2_with (refine store_page rfl _ _ rfl w.heap.size Pg.zero Pg.zero rfl rfl Z5.out ?_)
          refine bodyPost_ret (rdec_results _ _ w.heap.size Pg.zero.cs (setRow_heap _ _ _ _ _ _ Z5.out) rfl rfl) rfl ?_
          rw [HDG.out.1, HDG.out.2]
          exact ⟨rfl, below_setRow B5.out (Nat.le_refl _) _⟩
      · rw [Pg.enc_no hk, Pg.err_no hk]
        have HDG := Lib.hid (dec_bad s fun hg => not_good_ok s hs hk hg)
        clear hk sm ok1
        go_wp2_with (refine store_page rfl _ _ rfl w.heap.size Pg.zero Pg.zero rfl rfl Z5.out ?_)
        refine bodyPost_ret (rdec_results _ _ w.heap.size Pg.zero.cs (setRow_heap _ _ _ _ _ _ Z5.out) rfl rfl) rfl ?_
        rw [HDG.out.1, HDG.out.2]
        exact ⟨rfl, below_setRow B5.out (Nat.le_refl _) _⟩
end Go.Proofs.YtgafajbdmegfgaaGreat
