/- Rows of elements of k cells: cells set one behind the other, append, clear, copy. No program in sight. -/
import Derived.Test.YtelbioooggnbiaaGreatLkRow
import Derived.Lib.AppendZerosOnto
import Derived.Laws.AppendOwn
set_option linter.unusedVariables false
set_option linter.unusedSimpArgs false
namespace Go.Proofs.YtelbioooggnbiaaGreat
open Go.RowKit

/-- Cells set one behind the other. -/
def spl (cur : Array Value) : Nat → List Value → Array Value
  | _, [] => cur
  | o, v :: r => spl (cur.setIfInBounds o v) (o + 1) r
theorem spl_size : ∀ (vs : List Value) (o : Nat) (cur : Array Value), (spl cur o vs).size = cur.size
  | [], _, _ => rfl
  | v :: r, o, cur => by unfold spl; rw [spl_size r]; simp
theorem spl_get : ∀ (vs : List Value) (o : Nat) (cur : Array Value) (i : Nat), (spl cur o vs)[i]? = if o ≤ i ∧ i < o + vs.length then (if i < cur.size then vs[i - o]? else none) else cur[i]?
  | [], o, cur, i => by
    rw [if_neg (by simp)]
    rfl
  | v :: r, o, cur, i => by
    unfold spl
    rw [spl_get r (o + 1) _ i, Array.size_setIfInBounds, Array.getElem?_setIfInBounds, List.length_cons]
    by_cases e : o = i
    · subst e
      rw [if_neg (fun h => by omega), if_pos rfl, Nat.sub_self, if_pos (⟨Nat.le_refl _, by omega⟩ : o ≤ o ∧ o < o + (r.length + 1))]
      rfl
    · rw [if_neg e]
      by_cases h : o + 1 ≤ i ∧ i < o + 1 + r.length
      · rw [if_pos h, if_pos (⟨by omega, by omega⟩ : o ≤ i ∧ i < o + (r.length + 1)), show i - o = (i - (o + 1)) + 1 by omega, List.getElem?_cons_succ]
      · rw [if_neg h, if_neg (fun h2 : o ≤ i ∧ i < o + (r.length + 1) => h ⟨by omega, by omega⟩)]
theorem bk_cells {b : Nat} {e : TypeId} : ∀ (vs : List Value) (o : Nat) (w : World) (cur : Array Value), Bk w b e cur → Bk (w.setCells b o vs) b e (spl cur o vs)
  | [], _, _, _, h => h
  | v :: r, o, w, cur, h => bk_cells r (o + 1) _ _ (h.set o v)
theorem heap_cells (b i : Nat) (hi : i ≠ b) : ∀ (vs : List Value) (o : Nat) (w : World), (w.setCells b o vs).heap[i]? = w.heap[i]?
  | [], _, _ => rfl
  | v :: r, o, w => (heap_cells b i hi r (o + 1) _).trans (Below.heap_setCell w ⟨b, o, none⟩ v i hi)
theorem size_cells (b : Nat) : ∀ (vs : List Value) (o : Nat) (w : World), (w.setCells b o vs).heap.size = w.heap.size
  | [], _, _ => rfl
  | v :: r, o, w => (size_cells b r (o + 1) _).trans (by simp [World.setCell])
theorem oth_cells (b : Nat) : ∀ (vs : List Value) (o : Nat) (w : World), (w.setCells b o vs).os = w.os ∧ (w.setCells b o vs).tape = w.tape ∧ (w.setCells b o vs).output = w.output
  | [], _, _ => ⟨rfl, rfl, rfl⟩
  | v :: r, o, w => oth_cells b r (o + 1) (w.setCell ⟨b, o, none⟩ v)
theorem Kpf.cells {F : Nat → Prop} {w w' : World} (h : Kpf F w w') {b : Nat} (hb : F b ∨ w.heap.size ≤ b) (o : Nat) (vs : List Value) : Kpf F w (w'.setCells b o vs) :=
  h.trans (G := fun i => i = b) ⟨(oth_cells b vs o w').1, (oth_cells b vs o w').2.1, (oth_cells b vs o w').2.2, by rw [size_cells]; exact Nat.le_refl _, fun i _ hn => heap_cells b i hn vs o w'⟩ fun i hi => by subst hi; exact hb
theorem only_cells {a w : World} {row : Option Nat} (h : a.grownBy w row) {b : Nat} (hb : row = some b ∨ a.heap.size ≤ b) (o : Nat) (vs : List Value) : a.grownBy (w.setCells b o vs) row :=
  ⟨(oth_cells b vs o w).1.trans h.os, (oth_cells b vs o w).2.1.trans h.tape, (oth_cells b vs o w).2.2.trans h.output, by rw [size_cells]; exact h.size, fun k hk hne => (heap_cells b k (fun e => by
    subst e
    rcases hb with hb | hb
    · exact hne hb.symm
    · omega) vs o w).trans (h.block k hk hne)⟩
section
variable {α : Type} {enc : α → List Value} {k : Nat}
theorem fl_len (hk : ∀ x, (enc x).length = k) : ∀ l : List α, (l.flatMap enc).length = l.length * k
  | [] => by simp
  | x :: l => by rw [List.flatMap_cons, List.length_append, fl_len hk l, hk, List.length_cons, Nat.add_mul]; omega
theorem fl_at (hk : ∀ x, (enc x).length = k) : ∀ (l : List α) (j : Nat) (hj : j < l.length) (i : Nat), i < k → (l.flatMap enc)[j * k + i]? = (enc l[j])[i]?
  | x :: l, 0, _, i, hi => by
    rw [List.flatMap_cons, Nat.zero_mul, Nat.zero_add, List.getElem?_append_left (by rw [hk]; exact hi)]
    rfl
  | x :: l, j + 1, hj, i, hi => by
    rw [List.flatMap_cons, List.getElem?_append_right (by rw [hk, Nat.add_mul]; omega), hk, show (j + 1) * k + i - k = j * k + i by rw [Nat.add_mul]; omega, fl_at hk l j (by simpa using hj) i hi]
    rfl
theorem fl_split (hk : 0 < k) {n m : Nat} (h : m < n * k) : ∃ j i, j < n ∧ i < k ∧ m = j * k + i :=
  ⟨m / k, m % k, (Nat.div_lt_iff_lt_mul hk).2 h, Nat.mod_lt _ hk, by rw [Nat.mul_comm]; exact (Nat.div_add_mod m k).symm⟩
variable {w w' : World} {F G : Nat → Prop} {e : TypeId} {v : Value} {l : List α} {b off cap : Nat} {cur : Array Value}
theorem RkAt.flat (h : RkAt w e k enc b off cap cur l) (hk : ∀ x, (enc x).length = k) (hk0 : 0 < k) {m : Nat} (hm : m < l.length * k) : cur[off + m]? = (l.flatMap enc)[m]? := by
  obtain ⟨j, i, hj, hi, rfl⟩ := fl_split hk0 hm
  rw [fl_at hk l j hj i hi, ← Nat.add_assoc]
  have : (enc l[j])[i]? = some ((enc l[j])[i]'(by rw [hk]; exact hi)) := List.getElem?_eq_getElem _
  rw [this]
  exact h.at_ j hj i _ this
theorem RkAt.of_flat (hk : ∀ x, (enc x).length = k) (h1 : Bk w b e cur) (h2 : l.length ≤ cap) (h3 : cap ≤ maxLen) (h4 : off + cap * k ≤ cur.size) (h5 : ∀ m, m < l.length * k → cur[off + m]? = (l.flatMap enc)[m]?) : RkAt w e k enc b off cap cur l :=
  ⟨h1, h2, h3, h4, fun j hj i u hu => by
    have hi : i < k := by rw [← hk l[j]]; exact (List.getElem?_eq_some_iff.1 hu).1
    have hm : j * k + i < l.length * k := by
      have : (j + 1) * k ≤ l.length * k := Nat.mul_le_mul_right _ hj
      rw [Nat.add_mul] at this
      omega
    rw [Nat.add_assoc, h5 _ hm, fl_at hk l j hj i hi]
    exact hu⟩
theorem RkAt.flat_cell (h : RkAt w e k enc b off cap cur l) (hk : ∀ x, (enc x).length = k) (hk0 : 0 < k) {m : Nat} {u : Value} (hu : (l.flatMap enc)[m]? = some u) : w.cell? ⟨b, off + m, none⟩ = some u := by
  have hm : m < l.length * k := by rw [← fl_len hk]; exact (List.getElem?_eq_some_iff.1 hu).1
  rw [h.bk.cell, h.flat hk hk0 hm]
  exact hu
theorem RkAt.isSome (h : RkAt w e k enc b off cap cur l) {m : Nat} (hm : m < cap * k) : (w.cell? ⟨b, off + m, none⟩).isSome = true := by
  rw [h.bk.cell]
  have := h.sz
  have : off + m < cur.size := by omega
  simp [this]
/-- A whole element is stored at the place of another. -/
theorem RkAt.put (h : RkAt w e k enc b off cap cur l) (hk : ∀ x, (enc x).length = k) (j : Nat) (hj : j < l.length) (y : α) : RkAt (w.setCells b (off + j * k) (enc y)) e k enc b off cap (spl cur (off + j * k) (enc y)) (l.set j y) := by
  refine ⟨bk_cells _ _ _ _ h.bk, by rw [List.length_set]; exact h.le, h.mx, by rw [spl_size]; exact h.sz, fun q hq c u hu => ?_⟩
  rw [List.length_set] at hq
  have hc : c < k := by rw [← hk ((l.set j y)[q]'(by simpa using hq))]; exact (List.getElem?_eq_some_iff.1 hu).1
  have hin : off + q * k + c < cur.size := by
    have h1 : (q + 1) * k ≤ cap * k := Nat.mul_le_mul_right _ (by have := h.le; omega)
    rw [Nat.add_mul] at h1
    have := h.sz
    omega
  rw [List.getElem_set] at hu
  rw [spl_get, hk]
  by_cases e1 : j = q
  · subst e1
    rw [if_pos rfl] at hu
    rw [if_pos (by omega), if_pos hin, show off + j * k + c - (off + j * k) = c by omega]
    exact hu
  · rw [if_neg e1] at hu
    have : ¬ (off + j * k ≤ off + q * k + c ∧ off + q * k + c < off + j * k + k) := by
      rintro ⟨h1, h2⟩
      have a2 : (q * k + c) / k = q := by rw [Nat.mul_comm, Nat.mul_add_div (by omega), Nat.div_eq_of_lt hc]; omega
      have a3 : (j * k + (q * k + c - j * k)) / k = j := by rw [Nat.mul_comm, Nat.mul_add_div (by omega), Nat.div_eq_of_lt (by rw [Nat.mul_comm k j]; omega)]; omega
      rw [show j * k + (q * k + c - j * k) = q * k + c by omega, a2] at a3
      exact e1 a3.symm
    rw [if_neg this]
    exact h.at_ q hq c u hu
/-- What stands ahead of a place stays, whatever is set from there on. -/
theorem RkAt.cut (h : RkAt w e k enc b off cap cur l) (hk : ∀ x, (enc x).length = k) (i : Nat) (vs : List Value) : RkAt (w.setCells b (off + i * k) vs) e k enc b off cap (spl cur (off + i * k) vs) (l.take i) := by
  refine ⟨bk_cells _ _ _ _ h.bk, Nat.le_trans (List.length_take_le' _ _) h.le, h.mx, by rw [spl_size]; exact h.sz, fun q hq c u hu => ?_⟩
  have hc : c < k := by rw [← hk ((l.take i)[q])]; exact (List.getElem?_eq_some_iff.1 hu).1
  have hqi : q < i := by rw [List.length_take] at hq; omega
  rw [spl_get, if_neg (fun ⟨h1, h2⟩ => by
    have : (q + 1) * k ≤ i * k := Nat.mul_le_mul_right _ hqi
    rw [Nat.add_mul] at this
    omega)]
  rw [List.getElem_take] at hu
  exact h.at_ q (Nat.lt_of_lt_of_le hq (List.length_take_le' _ _)) c u hu
variable {P : Program}
/-- An element more. -/
theorem run_append_rk (t ty : TypeId) (i : TypeInfo) (z : Value) (bytes : Nat) (ht : P.underlying t = some (.slice e)) (hi : P.info? e = some i) (hz : i.zero = some z) (hsz : i.size = k) (hby : i.bytes = bytes) (hzs : z.cells.size = k)
    (hk : ∀ x, (enc x).length = k) (hk0 : 0 < k) (h1 : ∀ x, ∀ u ∈ enc x, u.oneCell' = true) (h : Rk w F e k enc v l) (x : α) (ad : Addr) (c : Nat) (hn : ∀ j u, (enc x)[j]? = some u → w.cell? (ad.add j) = some u) (hfit : (l.length + 1) * bytes ≤ 140737488355328) (h63 : l.length < 1000000000) :
    ∃ v' w', (Builtin.append_ #[t, t] ty #[v, .slice (some ad) 1 c]).run P w = .ok v' w' ∧ Rk w' (Ext F w w') e k enc v' (l ++ [x]) ∧ w.grownBy w' v.ownBlock := by
  have hs : Src P i.size t (.slice (some ad) 1 c) 1 (enc x) w := Src.ofSlice w ht ad 1 c (enc x) (by rw [hk, hsz, Nat.one_mul]) hn (h1 x)
  have grow : ∀ (base : Option Addr) (cap : Nat), (Builtin.firstCells i.size l.length (.slice base l.length cap)).run P w.drew = .ok (l.flatMap enc).toArray w.drew → cap < l.length + 1 →
      ∃ v' w', (Builtin.append_ #[t, t] ty #[.slice base l.length cap, .slice (some ad) 1 c]).run P w = .ok v' w' ∧ Rk w' (Ext F w w') e k enc v' (l ++ [x]) ∧ w.grownBy w' (Value.slice base l.length cap).ownBlock := by
    intro base cap hold hcap
    refine ⟨_, _, run_append_grow_src w t t ty e i z ht hi hz base l.length cap (l.flatMap enc) hold _ 1 (enc x) hs hcap (by omega) (by rw [hby]; exact growslice_fits hcap hfit), ?_, ?_⟩
    · refine .inr ⟨w.heap.size, 0, _, _, by rw [List.length_append]; rfl, .inr ⟨Nat.le_refl _, by simp⟩, RkAt.of_flat hk (Bk.new w.drew _ _) (by rw [List.length_append]; exact grownCap_ge w _ _ _) (grownCap_le_maxLen w _ _ _ (by unfold maxLen; omega)) ?_ fun m hm => ?_⟩
      · rw [Array.size_append, List.size_toArray, List.length_append, fl_len hk, hk, size_zeroCells, hzs, Nat.zero_add]
        have := grownCap_ge w (l.length + 1) cap e
        rw [show l.length * k + k = (l.length + 1) * k by rw [Nat.add_mul]; omega, ← Nat.add_mul]
        exact Nat.mul_le_mul_right _ (by omega)
      · rw [List.length_append, List.length_singleton] at hm
        rw [Nat.zero_add, Array.getElem?_append_left (by rw [List.size_toArray, List.length_append, fl_len hk, hk]; rw [Nat.add_mul] at hm; omega), List.getElem?_toArray, List.flatMap_append]
        simp
    · exact ⟨rfl, rfl, rfl, by simp, fun q hq _ => Below.heap_alloc w.drew _ q hq⟩
  rcases h with ⟨rfl, rfl⟩ | ⟨b, off, cap, cur, rfl, hF, hr⟩
  · exact grow none 0 (run_firstCells_none w.drew i.size 0 0 0) (by simp)
  · by_cases hroom : l.length + 1 ≤ cap
    · have hin : ∀ j, j < (enc x).length → l.length * i.size + j < cap * k := fun j hj => by
        rw [hk] at hj
        have : (l.length + 1) * k ≤ cap * k := Nat.mul_le_mul_right _ hroom
        rw [Nat.add_mul] at this
        rw [hsz]
        omega
      have hr2 := run_append_room_src (P := P) w t t ty e i ht hi b off l.length cap (.slice (some ad) 1 c) 1 (enc x) hs hroom (fun j hj => by rw [Nat.add_assoc]; exact hr.isSome (hin j hj)) (fun j _ => hr.bk.fz _)
      rw [hsz] at hr2
      refine ⟨_, _, hr2, .inr ⟨b, off, cap, spl cur (off + l.length * k) (enc x), by rw [List.length_append]; rfl, .inl hF, RkAt.of_flat hk (bk_cells _ _ _ _ hr.bk) (by rw [List.length_append]; exact hroom) hr.mx (by rw [spl_size]; exact hr.sz) fun m hm => ?_⟩, only_cells ⟨rfl, rfl, rfl, Nat.le_refl _, fun _ _ _ => rfl⟩ (.inl rfl) _ _⟩
      rw [List.length_append, List.length_singleton, Nat.add_mul] at hm
      rw [spl_get, hk, List.flatMap_append]
      by_cases hlt : m < l.length * k
      · rw [if_neg (by omega), hr.flat hk hk0 hlt, List.getElem?_append_left (by rw [fl_len hk]; exact hlt)]
      · have hcs : off + m < cur.size := by
          have : (l.length + 1) * k ≤ cap * k := Nat.mul_le_mul_right _ hroom
          rw [Nat.add_mul] at this
          have := hr.sz
          omega
        rw [if_pos (by omega), if_pos hcs, List.getElem?_append_right (by rw [fl_len hk]; omega), fl_len hk, show off + m - (off + l.length * k) = m - l.length * k by omega]
        simp
    · have hfc := run_firstCells_some (P := P) w.drew i.size l.length ⟨b, off, none⟩ l.length cap (l.flatMap enc) (by rw [fl_len hk, hsz]) (fun j u hu => by rw [Addr.add_mid]; exact hr.flat_cell hk hk0 hu)
      exact grow _ cap hfc (by omega)
theorem wpList_append_rk {ops : Array Oper} {rest : List Oper} {o : Oper} {a : Act} {Q : Exit → Act → World → Prop} (hgd : o.guard = none) (s y : Operand) (t : TypeId)
    (ho : o.op = .call { callee := .builtin .append, args := #[s, y], argTypes := #[t, t] })
    (i : TypeInfo) (z : Value) (bytes : Nat) (ht : P.underlying t = some (.slice e)) (hi : P.info? e = some i) (hz : i.zero = some z) (hsz : i.size = k) (hby : i.bytes = bytes) (hzs : z.cells.size = k)
    (hk : ∀ x, (enc x).length = k) (hk0 : 0 < k) (h1 : ∀ x, ∀ u ∈ enc x, u.oneCell' = true) (v : Value) (l : List α) (hs : a.eval s = v) (h : Rk w F e k enc v l) (x : α) (ad : Addr) (c : Nat) (hx : a.eval y = .slice (some ad) 1 c) (hn : ∀ j u, (enc x)[j]? = some u → w.cell? (ad.add j) = some u) (hfit : (l.length + 1) * bytes ≤ 140737488355328) (h63 : l.length < 1000000000)
    (hK : ∀ v' w', Rk w' (Ext F w w') e k enc v' (l ++ [x]) → w.grownBy w' v.ownBlock → wpList P ops Q rest (a.put o.dst v') w') : wpList P ops Q (o :: rest) a w := by
  obtain ⟨v', w', hr, r1, r2⟩ := run_append_rk (P := P) t o.type i z bytes ht hi hz hsz hby hzs hk hk0 h1 h x ad c hn hfit h63
  refine wpList_plain hgd fun _ hK2 => ?_
  unfold Oper.wp execOp
  simp only [ho, resolve, invoke, builtin, Sem.run_bind, Sem.run_pure, Result.andThen_ok, List.map_toArray, List.map_cons, List.map_nil, hs, hx, hr]
  exact hK2 _ _ (hK v' w' r1 r2)
/-- A slice's elements from a place on are made zeros. -/
theorem run_clear_rk (t ty : TypeId) (z : Value) (ht : P.underlying t = some (.slice e)) (hv : ∀ w, (zeroValue e).run P w = .ok z w) (hzs : z.cells.size = k) (h1 : ∀ u ∈ z.cells.toList, u.oneCell' = true) (h : RkAt w e k enc b off cap cur l) (j n c : Nat) (hn : j + n ≤ cap) :
    ∃ vs, (Builtin.clear_ #[t] ty #[.slice (some ⟨b, off + j * k, none⟩) n c]).run P w = .ok (.tuple #[]) (w.setCells b (off + j * k) vs) := by
  cases n with
  | zero => exact ⟨[], by simp [Builtin.clear_, run_underlying ht]; rfl⟩
  | succ n =>
    refine ⟨(Builtin.zeroCells z.cells (n + 1)).toList, ?_⟩
    have hl : (Builtin.zeroCells z.cells (n + 1)).toList.length = (n + 1) * k := by rw [Array.length_toList, size_zeroCells, hzs]
    have hst := run_storeCells_cells (P := P) b (off + j * k) (Builtin.zeroCells z.cells (n + 1)).toList 0 w (fun q hq => by
      rw [hl] at hq
      rw [Nat.add_zero, Nat.add_assoc]
      refine h.isSome ?_
      have : (j + (n + 1)) * k ≤ cap * k := Nat.mul_le_mul_right _ hn
      rw [Nat.add_mul] at this
      omega) (fun q _ => h.bk.fz _) (fun u hu => by
      obtain ⟨m, hm, rfl⟩ := List.mem_iff_getElem.1 hu
      have hm2 : m < (n + 1) * k := by rw [← hl]; exact hm
      have hk : 0 < k := by
        rcases Nat.eq_zero_or_pos k with e | e
        · rw [e] at hm2; simp at hm2
        · exact e
      have : (Builtin.zeroCells z.cells (n + 1)).toList[m] = z.cells[m % z.cells.size]'(Nat.mod_lt _ (by rw [hzs]; exact hk)) := by
        simp [Builtin.zeroCells]
        exact getElem!_pos z.cells _ (Nat.mod_lt _ (by rw [hzs]; exact hk))
      rw [this]
      exact h1 _ (by simp))
    simp only [Nat.add_zero] at hst
    simp [Builtin.clear_, run_underlying ht, hv, hst]
theorem wpList_clear_rk {ops : Array Oper} {rest : List Oper} {o : Oper} {a : Act} {Q : Exit → Act → World → Prop} (hgd : o.guard = none) (y : Operand) (t : TypeId) (ho : o.op = .call { callee := .builtin .clear, args := #[y], argTypes := #[t] })
    (z : Value) (ht : P.underlying t = some (.slice e)) (hv : ∀ w, (zeroValue e).run P w = .ok z w) (hzs : z.cells.size = k) (h1 : ∀ u ∈ z.cells.toList, u.oneCell' = true) (h : RkAt w e k enc b off cap cur l) (j n c : Nat) (hn : j + n ≤ cap) (hy : a.eval y = .slice (some ⟨b, off + j * k, none⟩) n c)
    (hK : ∀ vs, wpList P ops Q rest (a.put o.dst (.tuple #[])) (w.setCells b (off + j * k) vs)) : wpList P ops Q (o :: rest) a w := by
  obtain ⟨vs, hr⟩ := run_clear_rk (P := P) t o.type z ht hv hzs h1 h j n c hn
  refine wpList_plain hgd fun _ hK2 => ?_
  unfold Oper.wp execOp
  simp only [ho, resolve, invoke, builtin, Sem.run_bind, Sem.run_pure, Result.andThen_ok, List.map_toArray, List.map_cons, List.map_nil, hy, hr]
  exact hK2 _ _ (hK vs)
/-- Copy, all read ahead of all that is written. -/
theorem run_copy_rk (w : World) (dT sT ty elem : TypeId) (b o dLen dCap : Nat) (a : Addr) (sLen sCap m : Nat) (cs : List Value)
    (hu : P.underlying dT = some (.slice elem)) (hs : (P.info? elem).map (·.size) = some k) (hm : m = Nat.min sLen dLen) (hn : cs.length = m * k)
    (hsrc : ∀ j v, cs[j]? = some v → w.cell? (a.add j) = some v) (hc : ∀ j, j < cs.length → (w.cell? ⟨b, o + j, none⟩).isSome = true) (hf : ∀ j, j < cs.length → w.frozen? ⟨b, o + j, none⟩ = false) (h1 : ∀ v ∈ cs, v.oneCell' = true) :
    (Builtin.copy_ #[dT, sT] ty #[.slice (some ⟨b, o, none⟩) dLen dCap, .slice (some a) sLen sCap]).run P w = .ok (goInt m) (w.setCells b o cs) := by
  have hl := run_loadCells_list (P := P) w a cs hsrc
  have hst := run_storeCells_cells (P := P) b o cs 0 w (by simpa using hc) (by simpa using hf) h1
  rw [hn] at hl
  cases hq : P.info? elem with
  | none => simp [hq] at hs
  | some i =>
    simp [hq] at hs
    subst hm
    simp [Builtin.copy_, run_underlying hu, sizeOf, typeInfo, hq, hs, Builtin.lenOf, hl, hst, Builtin.firstCells]
end
end Go.Proofs.YtelbioooggnbiaaGreat
