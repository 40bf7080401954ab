/- The walks of the document's own reach and Digests. -/
import Derived.Test.YtehifnkpmhbimaaWtDist
set_option linter.unusedVariables false
set_option linter.unusedSimpArgs false
namespace Go.Proofs.Ytehifnkpmhbimaa
open Go.RowKit

/-- How far, as the document's own search has it: -1, if not at all. -/
def rd (A : Arcs) (n x j : Nat) : Int := if A.ds n x j < n then (A.ds n x j : Int) else -1
/-- What it has found by k arcs at most. -/
def lv (A : Arcs) (n x k j : Nat) : Int := if A.ds n x j ≤ k ∧ A.ds n x j < n then (A.ds n x j : Int) else -1
theorem lv_start (A : Arcs) (n x j : Nat) (hx : x < n) (hj : j < n) : lv A n x 0 j = if j = x then 0 else -1 := by
  unfold lv
  have := A.ds_zero (n := n) (x := x) (j := j) (by omega)
  by_cases e : j = x
  · rw [if_pos e, this.2 e, if_pos (by omega)]; rfl
  · rw [if_neg e, if_neg (by omega)]
theorem lv_end (A : Arcs) (n x j : Nat) : lv A n x n j = rd A n x j := by
  unfold lv rd
  have := A.ds_le n x j
  by_cases h : A.ds n x j < n
  · rw [if_pos h, if_pos ⟨this, h⟩]
  · rw [if_neg h, if_neg (by omega)]
theorem lv_lt (A : Arcs) (n x k j : Nat) : -1 ≤ lv A n x k j ∧ lv A n x k j < 64 + n := by
  unfold lv; split <;> omega
theorem lv_last (A : Arcs) (n x k j : Nat) (h : n ≤ k + 1) : lv A n x k j = rd A n x j := by
  unfold lv rd
  by_cases hh : A.ds n x j < n
  · rw [if_pos hh, if_pos (by omega)]
  · rw [if_neg hh, if_neg (by omega)]

/-- Level k + 1 as it is being filled: i arcs have been gone over. -/
structure Lv1 (A : Arcs) (n x k i : Nat) (f : Nat → Int) : Prop where
  old : ∀ j, j < n → lv A n x k j ≠ -1 → f j = lv A n x k j
  new : ∀ j, j < n → lv A n x k j = -1 → f j = -1 ∨ (f j = k + 1 ∧ lv A n x (k + 1) j = k + 1)
  got : ∀ q, q < i → lv A n x k (A.t q) = k → f (A.s q) ≠ -1
theorem Lv1.start (A : Arcs) (n x k : Nat) : Lv1 A n x k 0 (lv A n x k) := ⟨fun _ _ _ => rfl, fun _ _ h => .inl h, fun q hq => absurd hq (Nat.not_lt_zero _)⟩
theorem lv_is {A : Arcs} {n x k j d : Nat} (h : lv A n x k j = (d : Int)) : A.ds n x j = d ∧ d ≤ k ∧ d < n := by
  unfold lv at h; split at h <;> omega
/-- What stands there for the test: just if it has come that far. -/
theorem Lv1.test {A : Arcs} {n x k i : Nat} {f : Nat → Int} (h : Lv1 A n x k i f) {j : Nat} (hj : j < n) : f j = (k : Int) ↔ lv A n x k j = (k : Int) := by
  by_cases e : lv A n x k j = -1
  · rcases h.new j hj e with h1 | ⟨h1, _⟩ <;> rw [h1, e] <;> omega
  · rw [h.old j hj e]
theorem Lv1.free {A : Arcs} {n x k i : Nat} {f : Nat → Int} (h : Lv1 A n x k i f) {j : Nat} (hj : j < n) (hf : f j < 0) : lv A n x k j = -1 := by
  by_cases e : lv A n x k j = -1
  · exact e
  · have h1 := h.old j hj e
    have := (lv_lt A n x k j).1
    omega
theorem Lv1.skip {A : Arcs} {n x k i : Nat} {f : Nat → Int} (h : Lv1 A n x k i f) (hA : A.In n) (hi : i < A.m) (hn : ¬ (f (A.s i) < 0 ∧ f (A.t i) = (k : Int))) : Lv1 A n x k (i + 1) f := by
  refine ⟨h.old, h.new, fun q hq ht => ?_⟩
  rcases Nat.lt_or_ge q i with h1 | h1
  · exact h.got q h1 ht
  · obtain rfl : q = i := by omega
    intro e
    exact hn ⟨by omega, (h.test (hA q hi).2).2 ht⟩
def updI (f : Nat → Int) (k : Nat) (v : Int) : Nat → Int := fun i => if i = k then v else f i
theorem Lv1.take {A : Arcs} {n x k i : Nat} {f : Nat → Int} (h : Lv1 A n x k i f) (hA : A.In n) (hx : x < n) (hk : k < n) (hi : i < A.m) (h1 : f (A.s i) < 0) (h2 : f (A.t i) = (k : Int)) : Lv1 A n x k (i + 1) (updI f (A.s i) (k + 1)) := by
  have hI := hA i hi
  have e1 := h.free hI.1 h1
  have e2 := lv_is ((h.test hI.2).1 h2)
  have e3 := A.ds_arc (n := n) (x := x) hi
  have e4 : A.ds n x (A.s i) = k + 1 := by
    unfold lv at e1; split at e1
    · omega
    · have := A.ds_le n x (A.s i); omega
  refine ⟨fun j hj hne => ?_, fun j hj he => ?_, fun q hq ht => ?_⟩
  · unfold updI; split
    · rename_i e; rw [e] at hne; exact absurd e1 hne
    · exact h.old j hj hne
  · unfold updI; split
    · rename_i e; subst e
      by_cases hk1 : k + 1 < n
      · right; refine ⟨rfl, ?_⟩; unfold lv; rw [if_pos (by omega)]; omega
      · exfalso
        have hw := (A.W_ds (n := n) (x := x) (r := k) (j := A.t i) hk).2 (by omega)
        have hw2 : A.W x (k + 1) (A.s i) = true := (A.W_succ _ _ _).2 (.inr ⟨i, hi, rfl, hw⟩)
        have hw3 := (A.W_ds (n := n) (by omega)).1 (A.W_all hA hx hI.1 hw2)
        omega
    · exact h.new j hj he
  · unfold updI; split
    · omega
    · rename_i e
      rcases Nat.lt_or_ge q i with h3 | h3
      · exact h.got q h3 ht
      · obtain rfl : q = i := by omega
        exact absurd rfl e
theorem Lv1.done {A : Arcs} {n x k : Nat} {f : Nat → Int} (h : Lv1 A n x k A.m f) (hA : A.In n) (hk : k < n) (j : Nat) (hj : j < n) : f j = lv A n x (k + 1) j := by
  by_cases e : lv A n x k j = -1
  · rcases h.new j hj e with h1 | ⟨h1, h2⟩
    · rw [h1]
      by_cases e2 : lv A n x (k + 1) j = -1
      · exact e2.symm
      · exfalso
        have hd : A.ds n x j = k + 1 ∧ k + 1 < n := by unfold lv at e e2; split at e <;> split at e2 <;> omega
        obtain ⟨q, hq, hs, ht⟩ := A.ds_next hd.1 hd.2
        have := h.got q hq (by unfold lv; rw [if_pos (by omega), ht])
        rw [hs] at this
        exact this h1
    · rw [h1, h2]
  · rw [h.old j hj e]
    unfold lv at e ⊢
    split at e
    · rename_i hh
      rw [if_pos hh, if_pos (by omega)]
    · omega

/-- A row of numbers of its own, in block g, that may be below 0. -/
structure Fi (w : World) (g n : Nat) (f : Nat → Int) : Prop where
  at_ : ∃ ty cur, Bk w g ty cur ∧ ∀ i, i < n → cur[i]? = some (.int .i64 (f i))
theorem Fi.kept {w w' : World} {g n : Nat} {f : Nat → Int} (h : Fi w g n f) (hb : Below w.heap.size w w') : Fi w' g n f := by
  obtain ⟨ty, cur, h1, h2⟩ := h.at_
  exact ⟨ty, cur, h1.kept hb, h2⟩
theorem Fi.cell {w : World} {g n : Nat} {f : Nat → Int} (h : Fi w g n f) {i : Nat} (hi : i < n) : w.cell? ⟨g, i, none⟩ = some (.int .i64 (f i)) := by
  obtain ⟨ty, cur, h1, h2⟩ := h.at_
  rw [h1.cell]; exact h2 i hi
theorem Fi.fz {w : World} {g n : Nat} {f : Nat → Int} (h : Fi w g n f) (i : Nat) : w.frozen? ⟨g, i, none⟩ = false := by
  obtain ⟨ty, cur, h1, h2⟩ := h.at_
  exact h1.fz i
theorem Fi.lt {w : World} {g n : Nat} {f : Nat → Int} (h : Fi w g n f) : g < w.heap.size := by
  obtain ⟨ty, cur, h1, h2⟩ := h.at_
  exact h1.lt
theorem Fi.congr {w : World} {g n : Nat} {f f' : Nat → Int} (h : Fi w g n f) (e : ∀ i, i < n → f i = f' i) : Fi w g n f' := by
  obtain ⟨ty, cur, h1, h2⟩ := h.at_
  exact ⟨ty, cur, h1, fun i hi => by rw [← e i hi]; exact h2 i hi⟩
theorem Fi.set {w : World} {g n : Nat} {f : Nat → Int} (h : Fi w g n f) {k : Nat} (hk : k < n) (v : Int) : Fi (w.setCell ⟨g, k, none⟩ (.int .i64 v)) g n (updI f k v) := by
  obtain ⟨ty, cur, h1, h2⟩ := h.at_
  refine ⟨ty, _, h1.set _ _, fun i hi => ?_⟩
  rw [Array.getElem?_setIfInBounds]
  have hc := h2 i hi
  have hsz : i < cur.size := by
    rcases Nat.lt_or_ge i cur.size with h | h
    · exact h
    · rw [Array.getElem?_eq_none h] at hc; cases hc
  unfold updI
  by_cases e : k = i
  · subst e; simp [hsz]
  · rw [if_neg e, if_neg (fun e' => e e'.symm)]; exact hc
theorem Fi.row {w : World} {g n : Nat} {f : Nat → Int} (h : Fi w g n f) (cap : Nat) : Row w w.heap.size .i64 (.slice (some ⟨g, 0, none⟩) n cap) n f :=
  ⟨_, cap, rfl, (fun e => by cases e), fun _ => ⟨g, 0, rfl, h.lt, fun i hi => by rw [Nat.zero_add]; exact h.cell hi⟩⟩

set_option maxHeartbeats 4000000 in
theorem reach_any (va : Value) (n x : Nat) (A : Arcs) (w : World) (hn : n ≤ 64) (hx : x < n) (ha : IsArcs w w.heap.size va A) (hA : A.In n) :
    Calls Try.prog 22 #[.int .i64 n, va, .int .i64 x] w fun e w' => e = .returned (.slice (some ⟨w.heap.size, 0, none⟩) n n) ∧ Fi w' w.heap.size n (rd A n x) ∧ Below w.heap.size w w' := by
  have HA := Lib.hid hA
  obtain ⟨i0, hi, hz0, hz1, hz2⟩ := info_parts Try.info3
  have hmk := fun wx => run_make (P := Try.prog) wx 30 3 i0 (.int .i64 0) Try.underlying30 hi hz0 .i64 .i64 n n (by omega) (by omega) (by rw [hz2]; omega) (by omega)
  simp only [hz1, Nat.mul_one, Value.cells, Int.toNat_natCast] at hmk
  obtain ⟨a', c', rfl, hm, ha⟩ := ha
  have HR := Lib.hid ha
  have hm' : A.m ≤ 9223372036854775807 := by simp only [maxLen] at hm; omega
  have F0 := Lib.hid (show Fi (w.alloc (.cells (madeCells #[Value.int .i64 0] n) 3)) w.heap.size n (fun i => if i < 0 then -1 else 0) from ⟨_, _, Bk.new w _ _, fun i hi => by simp [madeCells, hi, Nat.mod_one]⟩)
  have B0 := Lib.hid ((Below.refl _ w).alloc (Nat.le_refl _) (.cells (madeCells #[Value.int .i64 0] n) 3))
  clear ha hm hA hi hz0 hz1 hz2
  go_enter Try.func22, Try.ntmps22
  go_wp2_with fail
  clear hmk
  generalize w.alloc (.cells (madeCells #[Value.int .i64 0] n) 3) = w1 at *
  go_loopw [8] (fun i wr => ∃ k : Nat, k ≤ n ∧ i = .int .i64 k ∧ Fi wr w.heap.size n (fun i => if i < k then -1 else 0) ∧ Below w.heap.size w wr) (fun i _ => n - (intOf i).toNat)
  case atStart => exact ⟨0, Nat.zero_le _, rfl, F0.out, B0.out⟩
  case round =>
    clear F0 B0
    obtain ⟨k, hk, rfl, hf, hb⟩ := hrel
    have FF := Lib.hid hf; have HB := Lib.hid hb
    clear hf hb
    by_cases hlt : k < n
    · have z0 := FF.out.cell hlt; have z1 := FF.out.fz k
      have NX := Lib.hid ((FF.out.set hlt (-1)).congr (f' := fun i => if i < k + 1 then -1 else 0) (fun i hi => by
        unfold updI
        by_cases e : i = k
        · subst e; simp
        · rw [if_neg e]
          show (if i < k then (-1 : Int) else 0) = _
          by_cases h : i < k
          · rw [if_pos h, if_pos (by omega)]
          · rw [if_neg h, if_neg (by omega)]))
      have NB := Lib.hid (HB.out.setCell (p := ⟨w.heap.size, k, none⟩) (Nat.le_refl _) (.int .i64 (-1)))
      clear FF HB
      go_wp2
      go_roundw
      case rel => exact ⟨k + 1, by omega, by go_num, NX.out, NB.out⟩
      case measure => simp [intOf]; omega
    · obtain rfl : k = n := by omega
      have z0 := FF.out.cell hx; have z1 := FF.out.fz x
      have NX := Lib.hid ((FF.out.set hx 0).congr (f' := lv A k x 0) (fun i hi => by
        rw [lv_start A k x i hx hi]
        unfold updI
        by_cases e : i = x
        · rw [if_pos e, if_pos e]
        · rw [if_neg e, if_neg e]; show (if i < k then (-1 : Int) else 0) = _; rw [if_pos hi]))
      have NB := Lib.hid (HB.out.setCell (p := ⟨w.heap.size, x, none⟩) (Nat.le_refl _) (.int .i64 0))
      clear FF HB
      go_wp2_with fail
      clear z0 z1 hlt
      go_loopw [9] (fun i wr => ∃ l : Nat, l ≤ k ∧ i = .int .i64 l ∧ Fi wr w.heap.size k (lv A k x l) ∧ Below w.heap.size w wr) (fun i _ => k - (intOf i).toNat)
      case atStart => exact ⟨0, Nat.zero_le _, rfl, NX.out, NB.out⟩
      case round =>
        clear NX NB hk
        obtain ⟨l, hl, rfl, hf, hb⟩ := hrel
        have FF := Lib.hid hf; have HB := Lib.hid hb
        clear hf hb
        by_cases hlt : l < k
        · go_wp2_with fail
          go_loopw [10] (fun i wr => ∃ (q : Nat) (f : Nat → Int), q ≤ A.m ∧ i = .int .i64 q ∧ Fi wr w.heap.size k f ∧ Lv1 A k x l q f ∧ Below w.heap.size w wr) (fun i _ => A.m - (intOf i).toNat)
          case atStart => exact ⟨0, _, Nat.zero_le _, rfl, FF.out, Lv1.start _ _ _ _, HB.out⟩
          case round =>
            clear FF HB
            obtain ⟨q, f, hq, rfl, hf, hlv, hb⟩ := hrel
            have FF := Lib.hid hf; have HB := Lib.hid hb; have LV := Lib.hid hlv
            clear hf hb hlv
            by_cases hlq : q < A.m
            · obtain ⟨hs, ht⟩ := HA.out q hlq
              obtain ⟨b, off, rfl, hbB, hcell⟩ := HR.out (by omega)
              have q0 : wr.cell? ⟨b, off + q * 2, none⟩ = some (.int .i64 (A.s q)) := by rw [HB.out.cell (p := ⟨b, off + q * 2, none⟩) hbB]; exact (hcell q hlq).1
              have q1 : wr.cell? ⟨b, off + q * 2 + 1, none⟩ = some (.int .i64 (A.t q)) := by rw [HB.out.cell (p := ⟨b, off + q * 2 + 1, none⟩) hbB]; exact (hcell q hlq).2
              have q1' : wr.cell? ⟨b, off + (q * 2 + 1), none⟩ = some (.int .i64 (A.t q)) := q1
              have z0 := FF.out.cell hs; have z1 := FF.out.cell ht; have z2 := FF.out.fz (A.s q)
              have TAKE := Lib.hid (LV.out.take HA.out hx hlt hlq); have SKIP := Lib.hid (LV.out.skip HA.out hlq)
              have NF := Lib.hid (FF.out.set hs ((l : Int) + 1)); have NB := Lib.hid (HB.out.setCell (p := ⟨w.heap.size, A.s q, none⟩) (Nat.le_refl _) (.int .i64 ((l : Int) + 1)))
              clear hcell LV
              generalize A.s q = sk at *
              generalize A.t q = tk at *
              generalize hfs : f sk = fs at *
              generalize hft : f tk = ft at *
              have HFS := Lib.hid hfs; have HFT := Lib.hid hft
              clear hfs hft
              by_cases h1 : fs < 0
              · by_cases h2 : ft = (l : Int)
                · have TK := Lib.hid (TAKE.out h1 h2)
                  subst h2
                  clear TAKE SKIP FF HB
                  go_wp2
                  go_roundw
                  case rel => exact ⟨q + 1, _, by omega, by go_num, NF.out, TK.out, NB.out⟩
                  case measure => simp [intOf]; omega
                · have SK := Lib.hid (SKIP.out (fun h => h2 h.2))
                  have h3 : (ft == (l : Int)) = false := by simpa using h2
                  clear TAKE SKIP NF NB
                  go_wp2
                  go_roundw
                  case rel => exact ⟨q + 1, f, by omega, by go_num, FF.out, SK.out, HB.out⟩
                  case measure => simp [intOf]; omega
              · have SK := Lib.hid (SKIP.out (fun h => h1 h.1))
                clear TAKE SKIP NF NB
                go_wp2
                go_roundw
                case rel => exact ⟨q + 1, f, by omega, by go_num, FF.out, SK.out, HB.out⟩
                case measure => simp [intOf]; omega
            · have NF := Lib.hid (FF.out.congr (f' := lv A k x (l + 1)) ((show Lv1 A k x l A.m f by rw [show A.m = q by omega]; exact LV.out).done HA.out hlt))
              clear FF LV
              go_wp2
              go_roundw
              case rel => exact ⟨l + 1, by omega, by go_num, NF.out, HB.out⟩
              case measure => simp [intOf]; omega
        · obtain rfl : l = k := by omega
          have FIN := Lib.hid (FF.out.congr (f' := rd A l x) (fun i _ => lv_end A l x i))
          clear FF
          go_wp2
          go_ret
          exact ⟨rfl, FIN.out, HB.out⟩
end Go.Proofs.Ytehifnkpmhbimaa
