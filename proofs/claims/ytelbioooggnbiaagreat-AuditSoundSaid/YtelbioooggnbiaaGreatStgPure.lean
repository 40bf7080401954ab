/- Images: a page's number and the page: rows of 17 cells. What a stage holds, as a rising list of images: plain facts. -/
import Derived.Test.YtelbioooggnbiaaGreatPgRow
import Derived.Test.YtelbioooggnbiaaGreatPgMem
import Derived.BigQuiet
import Derived.Test.YtelbioooggnbiaaGreatStgNew
import Derived.Test.YtelbioooggnbiaaGreatMap
set_option linter.unusedVariables false
set_option linter.unusedSimpArgs false
namespace Go.Proofs.YtelbioooggnbiaaGreat
open Go.RowKit

structure Im where
  id : Int
  p : Pg
def Im.cs (i : Im) : Array Value := (.int .i64 i.id :: i.p.cs.toList).toArray
def Im.zero : Im := ⟨0, Pg.zero⟩
theorem im_len (p : Im) : p.cs.toList.length = 17 := rfl
def flatIm (ps : List Im) : List Value := ps.flatMap fun p => p.cs.toList
theorem flatIm_len : ∀ ps : List Im, (flatIm ps).length = ps.length * 17
  | [] => rfl
  | p :: ps => by
    have := flatIm_len ps
    show (p.cs.toList ++ flatIm ps).length = (ps.length + 1) * 17
    rw [List.length_append, im_len, this]; omega
theorem flatIm_get : ∀ (ps : List Im) (i : Nat) (p : Im), ps[i]? = some p → ∀ j, j < 17 → (flatIm ps)[i * 17 + j]? = p.cs[j]?
  | [], i, p, h, j, hj => by simp at h
  | q :: ps, 0, p, h, j, hj => by
    simp at h
    subst h
    show (q.cs.toList ++ flatIm ps)[0 * 17 + j]? = _
    rw [Nat.zero_mul, Nat.zero_add, List.getElem?_append_left (by rw [im_len]; exact hj)]
    simp
  | q :: ps, i + 1, p, h, j, hj => by
    have := flatIm_get ps i p (by simpa using h) j hj
    show (q.cs.toList ++ flatIm ps)[(i + 1) * 17 + j]? = _
    rw [List.getElem?_append_right (by rw [im_len]; omega), im_len, show (i + 1) * 17 + j - 17 = i * 17 + j by omega]
    exact this
/-- Block g is these images, and spare cells behind them. -/
structure IRow (w : World) (g : Nat) (l : List Im) : Prop where
  lt : g < w.heap.size
  cells : ∀ (i : Nat) (p : Im), l[i]? = some p → w.rangeAt g (i * 17) p.cs.toList
theorem Bk.irow {w : World} {g : Nat} {l : List Im} {cs : Array Value} (h : Bk w g 65 cs) (hc : ∀ j, j < l.length * 17 → cs[j]? = (flatIm l)[j]?) : IRow w g l :=
  ⟨h.lt, fun i p hi j v hv => by
    have hj : j < 17 := by have := (List.getElem?_eq_some_iff.1 hv).1; rwa [im_len] at this
    have hl : i < l.length := (List.getElem?_eq_some_iff.1 hi).1
    rw [h.cell, hc _ (by omega), flatIm_get l i p hi j hj]
    simpa using hv⟩
theorem IRow.kept {w w' : World} {g : Nat} {l : List Im} (h : IRow w g l) (hb : Below w.heap.size w w') : IRow w' g l :=
  ⟨Nat.lt_of_lt_of_le h.lt hb.size, fun i p hi j v hv => (hb.cell h.lt).trans (h.cells i p hi j v hv)⟩
theorem im_page {w : World} {g : Nat} {i : Im} (h : Bk w g 65 i.cs) : w.rangeAt g 1 i.p.cs.toList := fun j v hv => by
  rw [h.cell]
  unfold Im.cs
  rw [List.getElem?_toArray, Nat.add_comm 1 j, List.getElem?_cons_succ]
  exact hv
theorem im_id {w : World} {g : Nat} {i : Im} (h : Bk w g 65 i.cs) : w.cell? ⟨g, 0, none⟩ = some (.int .i64 i.id) := h.cell 0
section
variable {ops : Array Oper} {rest : List Oper} {o : Oper} {a : Act} {w : World} {Q : Exit → Act → World → Prop}
theorem load_im_at (hgd : o.guard = none) (x : Operand) (ho : o.op = .load 65 x) (g : Nat) (l : List Im) (i : Nat) (p : Im) (hi : l[i]? = some p) (hx : a.eval x = .pointer (some ⟨g, i * 17, none⟩)) (hr : IRow w g l)
    (h : wpList Tryz.prog ops Q rest (a.put o.dst (.agg p.cs)) w) : wpList Tryz.prog ops Q (o :: rest) a w :=
  wpList_load_mid hgd 65 x ho g (i * 17) hx p.cs.toList _ (hr.cells i p hi) Tryz.underlying65 rfl (by rw [im_len]; kernel_rfl) (by simpa using h)
theorem load_im_page (hgd : o.guard = none) (x : Operand) (ho : o.op = .load 38 x) (g : Nat) (i : Im) (hx : a.eval x = .pointer (some ⟨g, 1, none⟩)) (hb : Bk w g 65 i.cs)
    (h : wpList Tryz.prog ops Q rest (a.put o.dst (.agg i.p.cs)) w) : wpList Tryz.prog ops Q (o :: rest) a w :=
  wpList_load_mid hgd 38 x ho g 1 hx i.p.cs.toList _ (im_page hb) Tryz.underlying38 rfl (by rw [pg_len]; kernel_rfl) (by simpa using h)
theorem store_im_new (hgd : o.guard = none) (x y : Operand) (ho : o.op = .store 65 x y) (i : Im)
    (hx : a.eval x = .pointer (some ⟨w.heap.size, 0, none⟩)) (hy : a.eval y = .agg i.cs) (h : wpList Tryz.prog ops Q rest (a.put o.dst undef) (w.alloc (.cells i.cs 65))) : wpList Tryz.prog ops Q (o :: rest) a (w.alloc (.cells Im.zero.cs 65)) := by
  refine wpList_store_row hgd 65 x y ho w.heap.size i.cs hx hy 65 Im.zero.cs (Bk.new _ _ _) (by rw [show i.cs.size = 17 from rfl]; kernel_rfl) rfl (by simp [Im.cs, Pg.cs, Value.oneCell']) ?_
  rw [World.setRow_alloc_new]
  exact h
end
end Go.Proofs.YtelbioooggnbiaaGreat
namespace Go.Proofs.YtelbioooggnbiaaGreat
open Go.RowKit

def look (l : List Im) (id : Int) : Option Pg := (l.find? fun i => i.id == id).map (·.p)
def ids (l : List Im) : List Int := l.map (·.id)
def Rising (l : List Im) : Prop := (ids l).Pairwise (· < ·)
theorem Rising.cons {i : Im} {l : List Im} : Rising (i :: l) ↔ (∀ j ∈ l, i.id < j.id) ∧ Rising l := by
  unfold Rising ids
  rw [List.map_cons, List.pairwise_cons]
  exact ⟨fun h => ⟨fun j hj => h.1 _ (List.mem_map_of_mem hj), h.2⟩, fun h => ⟨fun x hx => by obtain ⟨j, hj, rfl⟩ := List.mem_map.1 hx; exact h.1 j hj, h.2⟩⟩
theorem look_some {l : List Im} {id : Int} : (look l id).isSome = true ↔ id ∈ ids l := by
  unfold look ids
  simp only [Option.isSome_map, List.find?_isSome, beq_iff_eq, List.mem_map]
theorem look_mem {l : List Im} (hr : Rising l) {i : Im} (hi : i ∈ l) : look l i.id = some i.p := by
  induction l with
  | nil => cases hi
  | cons j l ih =>
    rw [Rising.cons] at hr
    unfold look
    rw [List.find?_cons]
    rcases List.mem_cons.1 hi with rfl | hi
    · simp
    · have := hr.1 i hi
      rw [show (j.id == i.id) = false by simp; omega]
      exact ih hr.2 hi
theorem rising_len : ∀ (l : List Im) (a : Int), Rising l → (∀ i ∈ l, a ≤ i.id ∧ i.id < 1024) → a ≤ 1024 → (l.length : Int) ≤ 1024 - a
  | [], a, _, _, ha => by simp; omega
  | i :: l, a, hr, h, ha => by
    rw [Rising.cons] at hr
    have h0 := h i List.mem_cons_self
    have := rising_len l (i.id + 1) hr.2 (fun j hj => by have := hr.1 j hj; have := h j (List.mem_cons_of_mem _ hj); omega) (by omega)
    rw [List.length_cons]
    omega
def ins (id : Int) (p : Pg) : List Im → List Im
  | [] => [⟨id, p⟩]
  | i :: l => if i.id < id then i :: ins id p l else if i.id = id then ⟨id, p⟩ :: l else ⟨id, p⟩ :: i :: l
theorem look_cons (i : Im) (l : List Im) (x : Int) : look (i :: l) x = if i.id = x then some i.p else look l x := by
  unfold look
  rw [List.find?_cons]
  by_cases h : i.id = x
  · rw [if_pos h, show (i.id == x) = true by simp [h]]; rfl
  · rw [if_neg h, show (i.id == x) = false by simp [h]]
theorem look_ins (id : Int) (p : Pg) : ∀ l, look (ins id p l) = setPg (look l) id p
  | [] => by
    funext x
    unfold ins setPg
    rw [look_cons]
    by_cases h : id = x
    · rw [if_pos h, if_pos h.symm]
    · rw [if_neg h, if_neg (fun e => h e.symm)]
  | i :: l => by
    have ih := look_ins id p l
    funext x
    have ih := congrFun ih x
    unfold setPg at ih ⊢
    unfold ins
    split
    · rw [look_cons, look_cons, ih]
      by_cases h : x = id
      · rw [if_pos h, if_pos h, if_neg (by omega)]
      · rw [if_neg h, if_neg h]
    · split
      · rename_i h1 h2
        rw [look_cons, look_cons]
        by_cases h : x = id
        · rw [if_pos h.symm, if_pos h]
        · rw [if_neg (fun e => h e.symm), if_neg h, if_neg (by omega)]
      · rw [look_cons]
        by_cases h : x = id
        · rw [if_pos h.symm, if_pos h]
        · rw [if_neg (fun e => h e.symm), if_neg h]
theorem ins_mem {id : Int} {p : Pg} : ∀ {l : List Im} {i : Im}, i ∈ ins id p l → i = ⟨id, p⟩ ∨ i ∈ l
  | [], i, h => by unfold ins at h; simp at h; exact .inl h
  | j :: l, i, h => by
    unfold ins at h
    split at h
    · rcases List.mem_cons.1 h with h | h
      · exact .inr (by rw [h]; exact List.mem_cons_self)
      · exact (ins_mem h).imp (fun e => e) (List.mem_cons_of_mem _)
    · split at h
      · rcases List.mem_cons.1 h with h | h
        · exact .inl h
        · exact .inr (List.mem_cons_of_mem _ h)
      · rcases List.mem_cons.1 h with h | h
        · exact .inl h
        · exact .inr h
theorem ins_rising {id : Int} {p : Pg} : ∀ {l : List Im}, Rising l → Rising (ins id p l)
  | [], _ => by unfold ins; exact Rising.cons.2 ⟨fun j hj => by (cases hj), List.Pairwise.nil⟩
  | i :: l, h => by
    have h2 := Rising.cons.1 h
    unfold ins
    split
    · refine Rising.cons.2 ⟨fun j hj => ?_, ins_rising h2.2⟩
      rcases ins_mem hj with rfl | hj
      · assumption
      · exact h2.1 j hj
    · split
      · rename_i e
        exact Rising.cons.2 ⟨fun j hj => by have := h2.1 j hj; rw [e] at this; exact this, h2.2⟩
      · refine Rising.cons.2 ⟨fun j hj => ?_, h⟩
        rcases List.mem_cons.1 hj with rfl | hj
        · show id < _; omega
        · have := h2.1 j hj; show id < _; omega
theorem ins_all {Q : Im → Prop} {id : Int} {p : Pg} {l : List Im} (h : ∀ i ∈ l, Q i) (h1 : Q ⟨id, p⟩) : ∀ i ∈ ins id p l, Q i := fun i hi => by
  rcases ins_mem hi with rfl | hi
  · exact h1
  · exact h i hi
/-- The reference's way of setting a page. -/
def stepS (id : Int) (p : Pg) (st : List Im × Bool) (i : Im) : List Im × Bool :=
  let st1 := if id ≤ i.id ∧ st.2 = false then (st.1 ++ [⟨id, p⟩], true) else st
  if i.id = id then st1 else (st1.1 ++ [i], st1.2)
theorem stepS_done (id : Int) (p : Pg) : ∀ (l : List Im) (out : List Im), (∀ i ∈ l, id < i.id) → l.foldl (stepS id p) (out, true) = (out ++ l, true)
  | [], out, _ => by simp
  | i :: l, out, h => by
    have h0 := h i List.mem_cons_self
    rw [List.foldl_cons]
    have : stepS id p (out, true) i = (out ++ [i], true) := by
      unfold stepS
      simp only [Bool.true_eq_false, and_false, if_false]
      rw [if_neg (by omega)]
    rw [this, stepS_done id p l _ (fun j hj => h j (List.mem_cons_of_mem _ hj))]
    simp
def finS (id : Int) (p : Pg) (st : List Im × Bool) : List Im := if st.2 = true then st.1 else st.1 ++ [⟨id, p⟩]
theorem stepS_ins (id : Int) (p : Pg) : ∀ (l : List Im) (out : List Im), Rising l → finS id p (l.foldl (stepS id p) (out, false)) = out ++ ins id p l
  | [], out, _ => by simp [finS, ins]
  | i :: l, out, h => by
    have h2 := Rising.cons.1 h
    rw [List.foldl_cons]
    unfold ins
    by_cases h3 : i.id < id
    · have : stepS id p (out, false) i = (out ++ [i], false) := by
        unfold stepS
        rw [if_neg (by omega), if_neg (by omega)]
      rw [this, stepS_ins id p l _ h2.2, if_pos h3]
      simp
    · rw [if_neg h3]
      by_cases h4 : i.id = id
      · have : stepS id p (out, false) i = (out ++ [⟨id, p⟩], true) := by
          show (if i.id = id then (if id ≤ i.id ∧ false = false then (out ++ [⟨id, p⟩], true) else (out, false)) else _) = _
          rw [if_pos h4, if_pos ⟨by omega, rfl⟩]
        rw [this, stepS_done id p l _ (fun j hj => by have := h2.1 j hj; omega), if_pos h4]
        simp [finS]
      · have : stepS id p (out, false) i = (out ++ [⟨id, p⟩] ++ [i], true) := by
          show (if i.id = id then _ else ((if id ≤ i.id ∧ false = false then (out ++ [⟨id, p⟩], true) else (out, false)).1 ++ [i], (if id ≤ i.id ∧ false = false then (out ++ [⟨id, p⟩], true) else (out, false)).2)) = _
          rw [if_neg h4, if_pos ⟨by omega, rfl⟩]
        rw [this, stepS_done id p l _ (fun j hj => by have := h2.1 j hj; omega), if_neg h4]
        simp [finS]
/-- What Images gives. -/
def outL (src : Int → Pg × Int) (l : List Im) : List Im := l.filter fun i => !(pgB (src i.id).1 i.p)
def errL (src : Int → Pg × Int) (l : List Im) : Int := match l.find? fun i => (src i.id).2 != 0 with | some i => (src i.id).2 | none => 0
theorem errL_at {src : Int → Pg × Int} {l : List Im} {j : Nat} {i : Im} (h : l[j]? = some i) (hp : ∀ k ∈ l.take j, (src k.id).2 = 0) (he : (src i.id).2 ≠ 0) : errL src l = (src i.id).2 := by
  unfold errL
  have : l.find? (fun i => (src i.id).2 != 0) = some i := by
    have hj : j < l.length := (List.getElem?_eq_some_iff.1 h).1
    have e : l = l.take j ++ i :: l.drop (j + 1) := by
      have h1 := (List.take_append_drop j l).symm
      rw [List.drop_eq_getElem_cons hj, (List.getElem?_eq_some_iff.1 h).2] at h1
      exact h1
    have h1 : (l.take j).find? (fun i => (src i.id).2 != 0) = none := List.find?_eq_none.2 fun k hk => by simp [hp k hk]
    have h2 : ((src i.id).2 != 0) = true := by simp [he]
    rw [e, List.find?_append, h1, List.find?_cons]
    simp [h2]
  rw [this]
theorem errL_none {src : Int → Pg × Int} {l : List Im} (hp : ∀ k ∈ l, (src k.id).2 = 0) : errL src l = 0 := by
  unfold errL
  have : l.find? (fun i => (src i.id).2 != 0) = none := List.find?_eq_none.2 fun k hk => by simp [hp k hk]
  rw [this]
/-- No key twice; a key is on the list just where it is set and is no longer to come. -/
def Coll (f : Int → Option Pg) (left : Lit → Bool) (ss : List Int) : Prop := ss.Nodup ∧ ∀ x, x ∈ ss ↔ ((f x).isSome = true ∧ left (.int .i64 x) = false)
theorem keyed_some (f : Int → Option Pg) (x : Int) : (keyed f (.int .i64 x)).isSome = (f x).isSome := by
  show ((f x).map fun p => Value.agg p.cs).isSome = _
  simp
theorem Coll.start {f : Int → Option Pg} {left : Lit → Bool} (h : ∀ kl, WideAt.IsKeyLit kl → left kl = (keyed f kl).isSome) : Coll f left [] :=
  ⟨List.nodup_nil, fun x => by rw [h (.int .i64 x) trivial, keyed_some]; cases (f x).isSome <;> simp⟩
theorem Coll.step {f : Int → Option Pg} {left : Lit → Bool} {ss : List Int} (h : Coll f left ss) {x : Int} {c : Value} (hl : left (.int .i64 x) = true) (hf : keyed f (.int .i64 x) = some c) : Coll f (fun z => left z && !z.sameKey (.int .i64 x)) (ss ++ [x]) := by
  have hs : (f x).isSome = true := by rw [← keyed_some, hf]; rfl
  have hnew : x ∉ ss := fun hx => by have := ((h.2 x).1 hx).2; rw [hl] at this; cases this
  refine ⟨List.nodup_append.2 ⟨h.1, by simp, fun a ha b hb => by simp at hb; subst hb; exact fun e => hnew (e ▸ ha)⟩, fun y => ?_⟩
  by_cases hy : y = x
  · subst hy; simp [hs, Lit.sameKey]
  · simp [h.2 y, hy, Lit.sameKey]
theorem Coll.done {l : List Im} {left : Lit → Bool} {ss : List Int} (h : Coll (look l) left ss) (hr : Rising l) (hl : ∀ kl, left kl = false) : (ss.mergeSort fun x y => decide (x ≤ y)) = ids l := by
  have tr : ∀ a b c : Int, decide (a ≤ b) = true → decide (b ≤ c) = true → decide (a ≤ c) = true := fun a b c h1 h2 => by simp only [decide_eq_true_eq] at *; omega
  have tot : ∀ a b : Int, (decide (a ≤ b) || decide (b ≤ a)) = true := fun a b => by simp only [Bool.or_eq_true, decide_eq_true_eq]; omega
  have hp := List.mergeSort_perm ss (fun x y => decide (x ≤ y))
  have hn : (ss.mergeSort fun x y => decide (x ≤ y)).Nodup := hp.nodup_iff.2 h.1
  refine rising_ext _ _ ?_ hr fun x => ?_
  · have h1 := List.pairwise_mergeSort tr tot ss
    refine (h1.and hn).imp fun {a b} hab => ?_
    have := hab.1
    simp only [decide_eq_true_eq] at this
    have := hab.2
    omega
  · rw [hp.mem_iff, h.2 x, hl, look_some]
    simp
theorem nodup_len : ∀ (l m : List Int), l.Nodup → l ⊆ m → l.length ≤ m.length
  | [], m, _, _ => Nat.zero_le _
  | x :: l, m, hn, hs => by
    rw [List.nodup_cons] at hn
    have hx : x ∈ m := hs List.mem_cons_self
    have := nodup_len l (m.erase x) hn.2 fun y hy => (List.mem_erase_of_ne (fun (e : y = x) => hn.1 (by rw [← e]; exact hy))).2 (hs (List.mem_cons_of_mem _ hy))
    rw [List.length_erase_of_mem hx] at this
    have := List.length_pos_of_mem hx
    rw [List.length_cons]
    omega
theorem Coll.len {l : List Im} {left : Lit → Bool} {ss : List Int} (h : Coll (look l) left ss) : ss.length ≤ l.length := by
  have hsub : ss ⊆ ids l := fun x hx => look_some.1 ((h.2 x).1 hx).1
  have := nodup_len _ _ h.1 hsub
  unfold ids at this
  rwa [List.length_map] at this
end Go.Proofs.YtelbioooggnbiaaGreat
