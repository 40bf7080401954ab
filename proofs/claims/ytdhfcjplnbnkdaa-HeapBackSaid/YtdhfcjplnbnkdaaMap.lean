/- A map of one's own whose elements are any values: what it holds, as a function of the key; its operations. No program in sight. -/
import Derived.Test.YtdhfcjplnbnkdaaBk
import Derived.Maps.RangeWalk
set_option linter.unusedVariables false
set_option linter.unusedSimpArgs false
namespace Go.Proofs.Ytdhfcjplnbnkdaa
open Go.RowKit Go.Maps Go.ChangeMaps Go.MapKept

/-- Each element reads as itself. -/
def anyElem (v : Value) : Option (DataW Value × List MemPlace) := some (.held v, [])
theorem anyElem_inv {v : Value} {d : DataW Value} {ps : List MemPlace} (h : anyElem v = some (d, ps)) : d = .held v := by injection h with h; injection h with h _; exact h.symm
/-- A reading and a function of the key. -/
def Hds (D : DataW Value) (f : Lit → Option Value) : Prop := IsMap D ∧ ∀ kl, WideAt.IsKeyLit kl → Maps.has D kl = (f kl).isSome ∧ ∀ v, f kl = some v → ∀ zd, D.atKey kl zd = .held v
/-- Block b is a map of at most n entries: just these. -/
def Mp (w : World) (P : Program) (k : TypeId) (b n : Nat) (f : Lit → Option Value) : Prop := ∃ D : DataW Value, w.ownsMap P k anyElem b n D ∧ Hds D f
/-- One entry laid, one struck. -/
def fput (f : Lit → Option Value) (kl : Lit) (v : Value) : Lit → Option Value := fun x => if x.sameKey kl = true then some v else f x
def fdel (f : Lit → Option Value) (kl : Lit) : Lit → Option Value := fun x => if x.sameKey kl = true then none else f x
theorem atKey_none {D : DataW Value} {kl : Lit} (h : Maps.has D kl = false) (zd : DataW Value) : D.atKey kl zd = zd := by
  cases D <;> try rfl
  rename_i es
  have : es.find? (fun p => p.1.sameKey kl) = none := List.find?_eq_none.2 fun p hp => by
    have := List.any_eq_false.1 (show es.any (fun p => p.1.sameKey kl) = false from h) p hp
    exact this
  simp [DataW.atKey, this]
theorem Hds.empty : Hds (.map []) (fun _ => none) := ⟨⟨_, rfl⟩, fun kl _ => ⟨rfl, fun v h => by cases h⟩⟩
theorem Hds.put {D : DataW Value} {f : Lit → Option Value} (h : Hds D f) {kl : Lit} (hk : WideAt.IsKeyLit kl) (v : Value) : Hds (D.put kl (.held v)) (fput f kl v) := by
  obtain ⟨⟨es, rfl⟩, h⟩ := h
  refine ⟨⟨_, rfl⟩, fun x hx => ?_⟩
  unfold fput
  by_cases hs : x.sameKey kl = true
  · have := WideAt.sameKey_eq hs
    subst this
    rw [if_pos hs]
    exact ⟨has_put_same ⟨_, rfl⟩ hk _, fun u hu zd => by injection hu with hu; subst hu; exact atKey_put_same ⟨_, rfl⟩ hk _ _⟩
  · have hne : x ≠ kl := fun e => hs (by rw [e]; exact WideAt.sameKey_self hk)
    rw [if_neg hs, has_put_other hne]
    exact ⟨(h x hx).1, fun u hu zd => by rw [atKey_put_other hne]; exact (h x hx).2 u hu zd⟩
theorem Hds.del {D : DataW Value} {f : Lit → Option Value} (h : Hds D f) {kl : Lit} (hk : WideAt.IsKeyLit kl) : Hds (D.del kl) (fdel f kl) := by
  obtain ⟨⟨es, rfl⟩, h⟩ := h
  refine ⟨⟨_, rfl⟩, fun x hx => ?_⟩
  unfold fdel
  by_cases hs : x.sameKey kl = true
  · have := WideAt.sameKey_eq hs
    subst this
    rw [if_pos hs]
    exact ⟨has_del_same, fun u hu zd => by cases hu⟩
  · have hne : x ≠ kl := fun e => hs (by rw [e]; exact WideAt.sameKey_self hk)
    rw [if_neg hs, has_del_other hne]
    exact ⟨(h x hx).1, fun u hu zd => by rw [atKey_del_other hne]; exact (h x hx).2 u hu zd⟩
namespace Mp
variable {w w' : World} {P : Program} {k : TypeId} {b n : Nat} {f : Lit → Option Value}
theorem made (w : World) (P : Program) (k : TypeId) : Mp (w.alloc (.map #[] 0)) P k w.heap.size 0 (fun _ => none) := ⟨_, World.ownsMap_made w P k anyElem, Hds.empty⟩
theorem lt (h : Mp w P k b n f) : b < w.heap.size := by obtain ⟨D, h, _⟩ := h; exact h.lt
theorem mono (h : Mp w P k b n f) {m : Nat} (hm : n ≤ m) : Mp w P k b m f := by obtain ⟨D, h, d⟩ := h; exact ⟨D, h.mono hm, d⟩
theorem grown {row : Option Nat} (h : Mp w P k b n f) (hg : w.grownBy w' row) (hne : some b ≠ row) : Mp w' P k b n f := by obtain ⟨D, h, d⟩ := h; exact ⟨D, h.kept hg hne, d⟩
theorem kept (h : Mp w P k b n f) (hb : Below w.heap.size w w') : Mp w' P k b n f := h.grown (only_below hb none) (by simp)
theorem alloc (h : Mp w P k b n f) (o : Obj) : Mp (w.alloc o) P k b n f := by obtain ⟨D, h, d⟩ := h; exact ⟨D, h.alloc o, d⟩
theorem drew (h : Mp w P k b n f) : Mp w.drew P k b n f := h
theorem drewN (h : Mp w P k b n f) (m : Nat) : Mp (w.drewN m) P k b n f := h
theorem far (h : Mp w P k b n f) {a : Addr} (ha : b ≠ a.block) (u : Value) : Mp (w.setCell a u) P k b n f := by obtain ⟨D, h, d⟩ := h; exact ⟨D, h.setCell ha u, d⟩
/-- No row of cells lies there. -/
theorem ne_bk (h : Mp w P k b n f) {g : Nat} {t : TypeId} {cs : Array Value} (hg : Bk w g t cs) : b ≠ g := by
  rintro rfl
  obtain ⟨D, ⟨es, clock, hb, _⟩, _⟩ := h
  unfold Bk at hg
  rw [hb] at hg
  cases hg
theorem of_block (h : Mp w P k b n f) (hb : w'.heap[b]? = w.heap[b]?) : Mp w' P k b n f := by
  obtain ⟨D, ⟨es, clock, h0, r⟩, d⟩ := h
  exact ⟨D, ⟨es, clock, hb.trans h0, r⟩, d⟩
theorem look {t e : TypeId} (h : Mp w P k b n f) (K : Keyed P k) (ht : P.underlying t = some (.map k e)) {z : Value} (hz : (zeroValue e).run P w = .ok z w) {key : Value} {kl : Lit} (hkey : keyOf P k key = some kl) :
    (Instr.lookup t (.map (some b)) key true).run P w = .ok (.tuple #[(f kl).getD z, .bool (f kl).isSome]) w ∧ (Instr.lookup t (.map (some b)) key false).run P w = .ok ((f kl).getD z) w := by
  obtain ⟨D, h, d⟩ := h
  obtain ⟨h1, h2⟩ := d.2 kl (K.key hkey)
  have key2 : ∀ v ps, anyElem v = some (D.atKey kl (.held z), ps) → v = (f kl).getD z := fun v ps hv => by
    have hv := anyElem_inv hv
    cases hf : f kl with
    | none =>
      rw [hf] at h1
      rw [atKey_none h1] at hv
      injection hv with hv
      exact hv.symm
    | some u =>
      rw [h2 u hf] at hv
      injection hv with hv
      exact hv.symm
  obtain ⟨v, ps, hr, hv⟩ := h.look_ok K ht hz (zd := .held z) (zp := []) rfl hkey
  obtain ⟨v2, ps2, hr2, hv2⟩ := h.lookup K ht hz (zd := .held z) (zp := []) rfl hkey
  rw [h1] at hr
  rw [← key2 v ps hv]
  refine ⟨hr, ?_⟩
  rw [key2 v ps hv, ← key2 v2 ps2 hv2]
  exact hr2
theorem store {t e : TypeId} (h : Mp w P k b n f) (K : Keyed P k) (ht : P.underlying t = some (.map k e)) (hn : n < maxLen) {key : Value} {kl : Lit} (v : Value) (hkey : keyOf P k key = some kl) :
    ∃ w', (Instr.mapUpdate t (.map (some b)) key v).run P w = .ok () w' ∧ Mp w' P k b (n + 1) (fput f kl v) ∧ w.grownBy w' (some b) := by
  obtain ⟨D, h, d⟩ := h
  obtain ⟨w', h1, h2, h3⟩ := h.update K ht hn (val := v) hkey rfl
  exact ⟨w', h1, ⟨_, h2, d.put (K.key hkey) v⟩, h3⟩
theorem clear {t e : TypeId} (h : Mp w P k b n f) (ht : P.underlying t = some (.map k e)) (ty : TypeId) :
    ∃ w', (Builtin.clear_ #[t] ty #[.map (some b)]).run P w = .ok (.tuple #[]) w' ∧ Mp w' P k b 0 (fun _ => none) ∧ w.grownBy w' (some b) := by
  obtain ⟨D, ⟨es, clock, hb, F, hs, hD⟩, d⟩ := h
  refine ⟨setBlock w b (.map #[] clock), ?_, ⟨_, ⟨#[], clock, heap_setBlock_same hb _, ⟨by simp, stamped_empty clock, by simp⟩, Nat.le_refl _, rfl⟩, Hds.empty⟩, ⟨rfl, rfl, rfl, by simp [setBlock], fun i _ hi => heap_setBlock_other hb _ (fun e => hi (by rw [e]))⟩⟩
  simp [Builtin.clear_, run_underlying ht, MapKept.run_getObj_map hb, run_setObj_map _ hb, setBlock, Result.andThen]
end Mp
section
variable {P : Program} (w : World) {ops : Array Oper} {rest : List Oper} {o : Oper} {a : Act} {Q : Exit → Act → World → Prop}
theorem wpList_mp_look (hg : o.guard = none) (m x : Operand) (t : TypeId) (hop : o.op = Op.lookup t m x true) (k e : TypeId) (K : Keyed P k) (ht : P.underlying t = some (.map k e)) {z : Value} (hz : (zeroValue e).run P w = .ok z w) (b n : Nat) (f : Lit → Option Value)
    (hm : a.eval m = .map (some b)) (hown : Mp w P k b n f) (key : Value) (kl : Lit) (hx : a.eval x = key) (hkey : keyOf P k key = some kl)
    (hK : wpList P ops Q rest (a.put o.dst (.tuple #[(f kl).getD z, .bool (f kl).isSome])) w) : wpList P ops Q (o :: rest) a w := by
  refine wpList_plain hg fun K' hK' => ?_
  obtain ⟨hrun, -⟩ := hown.look K ht hz hkey
  unfold Oper.wp
  simp [execOp, hop, hm, hx, hrun, Result.andThen]
  exact hK' _ _ hK
theorem wpList_mp_look1 (hg : o.guard = none) (m x : Operand) (t : TypeId) (hop : o.op = Op.lookup t m x false) (k e : TypeId) (K : Keyed P k) (ht : P.underlying t = some (.map k e)) {z : Value} (hz : (zeroValue e).run P w = .ok z w) (b n : Nat) (f : Lit → Option Value)
    (hm : a.eval m = .map (some b)) (hown : Mp w P k b n f) (key : Value) (kl : Lit) (hx : a.eval x = key) (hkey : keyOf P k key = some kl)
    (hK : wpList P ops Q rest (a.put o.dst ((f kl).getD z)) w) : wpList P ops Q (o :: rest) a w := by
  refine wpList_plain hg fun K' hK' => ?_
  obtain ⟨-, hrun⟩ := hown.look K ht hz hkey
  unfold Oper.wp
  simp [execOp, hop, hm, hx, hrun, Result.andThen]
  exact hK' _ _ hK
theorem wpList_mp_store (hg : o.guard = none) (m x v : Operand) (t : TypeId) (hop : o.op = Op.mapUpdate t m x v) (k e : TypeId) (K : Keyed P k) (ht : P.underlying t = some (.map k e)) (b n : Nat) (f : Lit → Option Value)
    (hm : a.eval m = .map (some b)) (hown : Mp w P k b n f) (hn : n < maxLen) (key val : Value) (kl : Lit) (hx : a.eval x = key) (hv : a.eval v = val) (hkey : keyOf P k key = some kl)
    (hK : ∀ w', Mp w' P k b (n + 1) (fput f kl val) → w.grownBy w' (some b) → wpList P ops Q rest (a.put o.dst undef) w') : wpList P ops Q (o :: rest) a w := by
  refine wpList_plain hg fun K' hK' => ?_
  obtain ⟨w', hrun, r1, r2⟩ := hown.store K ht hn val hkey
  unfold Oper.wp
  simp [execOp, hop, hm, hx, hv, hrun, Result.andThen]
  exact hK' _ _ (hK w' r1 r2)
theorem wpList_mp_clear (hg : o.guard = none) (m : Operand) (t : TypeId) (hop : o.op = Op.call { callee := Callee.builtin Builtin.clear, args := #[m], argTypes := #[t] }) (k e : TypeId) (ht : P.underlying t = some (.map k e)) (b n : Nat) (f : Lit → Option Value)
    (hm : a.eval m = .map (some b)) (hown : Mp w P k b n f)
    (hK : ∀ w', Mp w' P k b 0 (fun _ => none) → w.grownBy w' (some b) → wpList P ops Q rest (a.put o.dst (.tuple #[])) w') : wpList P ops Q (o :: rest) a w := by
  refine wpList_plain hg fun K' hK' => ?_
  obtain ⟨w', hrun, r1, r2⟩ := hown.clear ht o.type
  unfold Oper.wp
  simp [execOp, hop, resolve, invoke, builtin, hm, hrun, Result.andThen]
  exact hK' _ _ (hK w' r1 r2)
end
end Go.Proofs.Ytdhfcjplnbnkdaa
