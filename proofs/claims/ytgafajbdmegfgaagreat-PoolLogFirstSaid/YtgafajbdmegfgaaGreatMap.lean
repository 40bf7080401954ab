/- A map of one's own whose elements are any values: what it holds, as a function of the key; its operations. No program in sight. A range over a map of one's own with keys of int: what is still to come. No program in sight. Maps of one's own keyed by int: what they hold by the number; delete while ranging; len. No program in sight. -/
import Derived.Test.YtgafajbdmegfgaaGreatBk
import Derived.Maps.RangeWalk
import Derived.Maps.OwnSet
set_option linter.unusedVariables false
set_option linter.unusedSimpArgs false
namespace Go.Proofs.YtgafajbdmegfgaaGreat
open Go.RowKit Go.Maps Go.ChangeMaps Go.MapKept

/-- Each element reads as itself. -/
def anyElem (v : Value) : Option (DataW Value × List MemPlace) := some (.held v, [])
theorem anyElem_inv {v : Value} {d : DataW Value} {ps : List MemPlace} (h : anyElem v = some (d, ps)) : d = .held v := by injection h with h; injection h with h _; exact h.symm
/-- A reading and a function of the key. -/
def Hds (D : DataW Value) (f : Lit → Option Value) : Prop := IsMap D ∧ ∀ kl, WideAt.IsKeyLit kl → Maps.has D kl = (f kl).isSome ∧ ∀ v, f kl = some v → ∀ zd, D.atKey kl zd = .held v
/-- Block b is a map of at most n entries: just these. -/
def Mp (w : World) (P : Program) (k : TypeId) (b n : Nat) (f : Lit → Option Value) : Prop := ∃ D : DataW Value, w.ownsMap P k anyElem b n D ∧ Hds D f
/-- One entry laid, one struck. -/
def fput (f : Lit → Option Value) (kl : Lit) (v : Value) : Lit → Option Value := fun x => if x.sameKey kl = true then some v else f x
def fdel (f : Lit → Option Value) (kl : Lit) : Lit → Option Value := fun x => if x.sameKey kl = true then none else f x
theorem atKey_none {D : DataW Value} {kl : Lit} (h : Maps.has D kl = false) (zd : DataW Value) : D.atKey kl zd = zd := by
  cases D <;> try rfl
  rename_i es
  have : es.find? (fun p => p.1.sameKey kl) = none := List.find?_eq_none.2 fun p hp => by
    have := List.any_eq_false.1 (show es.any (fun p => p.1.sameKey kl) = false from h) p hp
    exact this
  simp [DataW.atKey, this]
theorem Hds.empty : Hds (.map []) (fun _ => none) := ⟨⟨_, rfl⟩, fun kl _ => ⟨rfl, fun v h => by cases h⟩⟩
theorem Hds.put {D : DataW Value} {f : Lit → Option Value} (h : Hds D f) {kl : Lit} (hk : WideAt.IsKeyLit kl) (v : Value) : Hds (D.put kl (.held v)) (fput f kl v) := by
  obtain ⟨⟨es, rfl⟩, h⟩ := h
  refine ⟨⟨_, rfl⟩, fun x hx => ?_⟩
  unfold fput
  by_cases hs : x.sameKey kl = true
  · have := WideAt.sameKey_eq hs
    subst this
    rw [if_pos hs]
    exact ⟨has_put_same ⟨_, rfl⟩ hk _, fun u hu zd => by injection hu with hu; subst hu; exact atKey_put_same ⟨_, rfl⟩ hk _ _⟩
  · have hne : x ≠ kl := fun e => hs (by rw [e]; exact WideAt.sameKey_self hk)
    rw [if_neg hs, has_put_other hne]
    exact ⟨(h x hx).1, fun u hu zd => by rw [atKey_put_other hne]; exact (h x hx).2 u hu zd⟩
theorem Hds.del {D : DataW Value} {f : Lit → Option Value} (h : Hds D f) {kl : Lit} (hk : WideAt.IsKeyLit kl) : Hds (D.del kl) (fdel f kl) := by
  obtain ⟨⟨es, rfl⟩, h⟩ := h
  refine ⟨⟨_, rfl⟩, fun x hx => ?_⟩
  unfold fdel
  by_cases hs : x.sameKey kl = true
  · have := WideAt.sameKey_eq hs
    subst this
    rw [if_pos hs]
    exact ⟨has_del_same, fun u hu zd => by cases hu⟩
  · have hne : x ≠ kl := fun e => hs (by rw [e]; exact WideAt.sameKey_self hk)
    rw [if_neg hs, has_del_other hne]
    exact ⟨(h x hx).1, fun u hu zd => by rw [atKey_del_other hne]; exact (h x hx).2 u hu zd⟩
namespace Mp
variable {w w' : World} {P : Program} {k : TypeId} {b n : Nat} {f : Lit → Option Value}
theorem made (w : World) (P : Program) (k : TypeId) : Mp (w.alloc (.map #[] 0)) P k w.heap.size 0 (fun _ => none) := ⟨_, World.ownsMap_made w P k anyElem, Hds.empty⟩
theorem lt (h : Mp w P k b n f) : b < w.heap.size := by obtain ⟨D, h, _⟩ := h; exact h.lt
theorem mono (h : Mp w P k b n f) {m : Nat} (hm : n ≤ m) : Mp w P k b m f := by obtain ⟨D, h, d⟩ := h; exact ⟨D, h.mono hm, d⟩
theorem grown {row : Option Nat} (h : Mp w P k b n f) (hg : w.grownBy w' row) (hne : some b ≠ row) : Mp w' P k b n f := by obtain ⟨D, h, d⟩ := h; exact ⟨D, h.kept hg hne, d⟩
theorem kept (h : Mp w P k b n f) (hb : Below w.heap.size w w') : Mp w' P k b n f := h.grown (only_below hb none) (by simp)
theorem alloc (h : Mp w P k b n f) (o : Obj) : Mp (w.alloc o) P k b n f := by obtain ⟨D, h, d⟩ := h; exact ⟨D, h.alloc o, d⟩
theorem drew (h : Mp w P k b n f) : Mp w.drew P k b n f := h
theorem drewN (h : Mp w P k b n f) (m : Nat) : Mp (w.drewN m) P k b n f := h
theorem far (h : Mp w P k b n f) {a : Addr} (ha : b ≠ a.block) (u : Value) : Mp (w.setCell a u) P k b n f := by obtain ⟨D, h, d⟩ := h; exact ⟨D, h.setCell ha u, d⟩
/-- No row of cells lies there. -/
theorem ne_bk (h : Mp w P k b n f) {g : Nat} {t : TypeId} {cs : Array Value} (hg : Bk w g t cs) : b ≠ g := by
  rintro rfl
  obtain ⟨D, ⟨es, clock, hb, _⟩, _⟩ := h
  unfold Bk at hg
  rw [hb] at hg
  cases hg
theorem of_block (h : Mp w P k b n f) (hb : w'.heap[b]? = w.heap[b]?) : Mp w' P k b n f := by
  obtain ⟨D, ⟨es, clock, h0, r⟩, d⟩ := h
  exact ⟨D, ⟨es, clock, hb.trans h0, r⟩, d⟩
theorem look {t e : TypeId} (h : Mp w P k b n f) (K : Keyed P k) (ht : P.underlying t = some (.map k e)) {z : Value} (hz : (zeroValue e).run P w = .ok z w) {key : Value} {kl : Lit} (hkey : keyOf P k key = some kl) :
    (Instr.lookup t (.map (some b)) key true).run P w = .ok (.tuple #[(f kl).getD z, .bool (f kl).isSome]) w ∧ (Instr.lookup t (.map (some b)) key false).run P w = .ok ((f kl).getD z) w := by
  obtain ⟨D, h, d⟩ := h
  obtain ⟨h1, h2⟩ := d.2 kl (K.key hkey)
  have key2 : ∀ v ps, anyElem v = some (D.atKey kl (.held z), ps) → v = (f kl).getD z := fun v ps hv => by
    have hv := anyElem_inv hv
    cases hf : f kl with
    | none =>
      rw [hf] at h1
      rw [atKey_none h1] at hv
      injection hv with hv
      exact hv.symm
    | some u =>
      rw [h2 u hf] at hv
      injection hv with hv
      exact hv.symm
  obtain ⟨v, ps, hr, hv⟩ := h.look_ok K ht hz (zd := .held z) (zp := []) rfl hkey
  obtain ⟨v2, ps2, hr2, hv2⟩ := h.lookup K ht hz (zd := .held z) (zp := []) rfl hkey
  rw [h1] at hr
  rw [← key2 v ps hv]
  refine ⟨hr, ?_⟩
  rw [key2 v ps hv, ← key2 v2 ps2 hv2]
  exact hr2
theorem store {t e : TypeId} (h : Mp w P k b n f) (K : Keyed P k) (ht : P.underlying t = some (.map k e)) (hn : n < maxLen) {key : Value} {kl : Lit} (v : Value) (hkey : keyOf P k key = some kl) :
    ∃ w', (Instr.mapUpdate t (.map (some b)) key v).run P w = .ok () w' ∧ Mp w' P k b (n + 1) (fput f kl v) ∧ w.grownBy w' (some b) := by
  obtain ⟨D, h, d⟩ := h
  obtain ⟨w', h1, h2, h3⟩ := h.update K ht hn (val := v) hkey rfl
  exact ⟨w', h1, ⟨_, h2, d.put (K.key hkey) v⟩, h3⟩
theorem clear {t e : TypeId} (h : Mp w P k b n f) (ht : P.underlying t = some (.map k e)) (ty : TypeId) :
    ∃ w', (Builtin.clear_ #[t] ty #[.map (some b)]).run P w = .ok (.tuple #[]) w' ∧ Mp w' P k b 0 (fun _ => none) ∧ w.grownBy w' (some b) := by
  obtain ⟨D, ⟨es, clock, hb, F, hs, hD⟩, d⟩ := h
  refine ⟨setBlock w b (.map #[] clock), ?_, ⟨_, ⟨#[], clock, heap_setBlock_same hb _, ⟨by simp, stamped_empty clock, by simp⟩, Nat.le_refl _, rfl⟩, Hds.empty⟩, ⟨rfl, rfl, rfl, by simp [setBlock], fun i _ hi => heap_setBlock_other hb _ (fun e => hi (by rw [e]))⟩⟩
  simp [Builtin.clear_, run_underlying ht, MapKept.run_getObj_map hb, run_setObj_map _ hb, setBlock, Result.andThen]
end Mp
section
variable {P : Program} (w : World) {ops : Array Oper} {rest : List Oper} {o : Oper} {a : Act} {Q : Exit → Act → World → Prop}
theorem wpList_mp_look (hg : o.guard = none) (m x : Operand) (t : TypeId) (hop : o.op = Op.lookup t m x true) (k e : TypeId) (K : Keyed P k) (ht : P.underlying t = some (.map k e)) {z : Value} (hz : (zeroValue e).run P w = .ok z w) (b n : Nat) (f : Lit → Option Value)
    (hm : a.eval m = .map (some b)) (hown : Mp w P k b n f) (key : Value) (kl : Lit) (hx : a.eval x = key) (hkey : keyOf P k key = some kl)
    (hK : wpList P ops Q rest (a.put o.dst (.tuple #[(f kl).getD z, .bool (f kl).isSome])) w) : wpList P ops Q (o :: rest) a w := by
  refine wpList_plain hg fun K' hK' => ?_
  obtain ⟨hrun, -⟩ := hown.look K ht hz hkey
  unfold Oper.wp
  simp [execOp, hop, hm, hx, hrun, Result.andThen]
  exact hK' _ _ hK
theorem wpList_mp_look1 (hg : o.guard = none) (m x : Operand) (t : TypeId) (hop : o.op = Op.lookup t m x false) (k e : TypeId) (K : Keyed P k) (ht : P.underlying t = some (.map k e)) {z : Value} (hz : (zeroValue e).run P w = .ok z w) (b n : Nat) (f : Lit → Option Value)
    (hm : a.eval m = .map (some b)) (hown : Mp w P k b n f) (key : Value) (kl : Lit) (hx : a.eval x = key) (hkey : keyOf P k key = some kl)
    (hK : wpList P ops Q rest (a.put o.dst ((f kl).getD z)) w) : wpList P ops Q (o :: rest) a w := by
  refine wpList_plain hg fun K' hK' => ?_
  obtain ⟨-, hrun⟩ := hown.look K ht hz hkey
  unfold Oper.wp
  simp [execOp, hop, hm, hx, hrun, Result.andThen]
  exact hK' _ _ hK
theorem wpList_mp_store (hg : o.guard = none) (m x v : Operand) (t : TypeId) (hop : o.op = Op.mapUpdate t m x v) (k e : TypeId) (K : Keyed P k) (ht : P.underlying t = some (.map k e)) (b n : Nat) (f : Lit → Option Value)
    (hm : a.eval m = .map (some b)) (hown : Mp w P k b n f) (hn : n < maxLen) (key val : Value) (kl : Lit) (hx : a.eval x = key) (hv : a.eval v = val) (hkey : keyOf P k key = some kl)
    (hK : ∀ w', Mp w' P k b (n + 1) (fput f kl val) → w.grownBy w' (some b) → wpList P ops Q rest (a.put o.dst undef) w') : wpList P ops Q (o :: rest) a w := by
  refine wpList_plain hg fun K' hK' => ?_
  obtain ⟨w', hrun, r1, r2⟩ := hown.store K ht hn val hkey
  unfold Oper.wp
  simp [execOp, hop, hm, hx, hv, hrun, Result.andThen]
  exact hK' _ _ (hK w' r1 r2)
theorem wpList_mp_clear (hg : o.guard = none) (m : Operand) (t : TypeId) (hop : o.op = Op.call { callee := Callee.builtin Builtin.clear, args := #[m], argTypes := #[t] }) (k e : TypeId) (ht : P.underlying t = some (.map k e)) (b n : Nat) (f : Lit → Option Value)
    (hm : a.eval m = .map (some b)) (hown : Mp w P k b n f)
    (hK : ∀ w', Mp w' P k b 0 (fun _ => none) → w.grownBy w' (some b) → wpList P ops Q rest (a.put o.dst (.tuple #[])) w') : wpList P ops Q (o :: rest) a w := by
  refine wpList_plain hg fun K' hK' => ?_
  obtain ⟨w', hrun, r1, r2⟩ := hown.clear ht o.type
  unfold Oper.wp
  simp [execOp, hop, resolve, invoke, builtin, hm, hrun, Result.andThen]
  exact hK' _ _ (hK w' r1 r2)
end
end Go.Proofs.YtgafajbdmegfgaaGreat
namespace Go.Proofs.YtgafajbdmegfgaaGreat
open Go.RowKit Go.Maps Go.ChangeMaps Go.MapKept

/-- Block r is a range over the map in block b, which is these; those for which 'left' says so are still to come. -/
def MpR (w : World) (P : Program) (k : TypeId) (b r n : Nat) (f : Lit → Option Value) (left : Lit → Bool) (cnt : Nat) : Prop := ∃ D : DataW Value, w.ranges P k anyElem b r n D left cnt ∧ Hds D f
namespace MpR
variable {w w' : World} {P : Program} {k : TypeId} {b r n cnt : Nat} {f : Lit → Option Value} {left : Lit → Bool}
theorem mp (h : MpR w P k b r n f left cnt) : Mp w P k b n f := by obtain ⟨D, h, d⟩ := h; exact ⟨D, h.owns, d⟩
theorem left_eq (h : MpR w P k b r n f left cnt) : w.rangeLeft b r = cnt := by obtain ⟨D, h, d⟩ := h; exact h.left_eq
theorem lt (h : MpR w P k b r n f left cnt) : r < w.heap.size := by obtain ⟨D, h, d⟩ := h; exact h.lt
theorem grown {row : Option Nat} (h : MpR w P k b r n f left cnt) (hg : w.grownBy w' row) (hb : some b ≠ row) (hr : some r ≠ row) : MpR w' P k b r n f left cnt := by obtain ⟨D, h, d⟩ := h; exact ⟨D, h.kept hg hb hr, d⟩
theorem alloc (h : MpR w P k b r n f left cnt) (o : Obj) : MpR (w.alloc o) P k b r n f left cnt := by obtain ⟨D, h, d⟩ := h; exact ⟨D, h.alloc o, d⟩
end MpR
section
variable {P : Program} (w : World) {ops : Array Oper} {rest : List Oper} {o : Oper} {a : Act} {Q : Exit → Act → World → Prop}
theorem wpList_mp_range (hg : o.guard = none) (m : Operand) (t : TypeId) (hop : o.op = Op.range t m) (k e : TypeId) (K : Keyed P k) (ht : P.underlying t = some (.map k e)) (b n : Nat) (f : Lit → Option Value)
    (hm : a.eval m = .map (some b)) (hown : Mp w P k b n f)
    (hK : ∀ w' left cnt, (∀ kl, WideAt.IsKeyLit kl → left kl = (f kl).isSome) → MpR w' P k b w.heap.size n f left cnt → w.grownBy w' none → w'.heap.size = w.heap.size + 1 → wpList P ops Q rest (a.put o.dst (.pointer (some ⟨w.heap.size, 0, none⟩))) w') :
    wpList P ops Q (o :: rest) a w := by
  obtain ⟨D, h, d⟩ := hown
  exact wpList_range_own w hg m t hop k e K ht anyElem b n D hm h fun w' h1 h2 h3 => hK w' _ _ (fun kl hk => (d.2 kl hk).1) ⟨D, h1, d⟩ h2 h3
theorem wpList_mp_next (hg : o.guard = none) (it : Operand) (hop : o.op = Op.next it false) (k : TypeId) (K : Keyed P k) (hk : P.underlying k = some (.int .i64)) (b r n : Nat) (f : Lit → Option Value) (left : Lit → Bool) (cnt : Nat)
    (hit : a.eval it = .pointer (some ⟨r, 0, none⟩)) (h : MpR w P k b r n f left cnt)
    (hDone : cnt = 0 → (∀ kl, left kl = false) → wpList P ops Q rest (a.put o.dst (.tuple #[.bool false])) w)
    (hMore : ∀ (x : Int) (c : Value) (w' : World) (cnt' : Nat), (Lit.int .i64 x).wf = true → left (.int .i64 x) = true → f (.int .i64 x) = some c → MpR w' P k b r n f (fun z => left z && !z.sameKey (.int .i64 x)) cnt' → cnt' < cnt →
      w.grownBy w' (some r) → w'.heap.size = w.heap.size → (Instr.entry (.pointer (some ⟨r, 0, none⟩))).run P w' = .ok (.tuple #[.int .i64 x, c]) w' → wpList P ops Q rest (a.put o.dst (.tuple #[.bool true, .int .i64 x, c])) w') :
    wpList P ops Q (o :: rest) a w := by
  obtain ⟨D, h, d⟩ := h
  refine wpList_next_ranges w hg it hop k K anyElem (Value.int .i64) id (fun key kl hkey => by obtain ⟨x, rfl, _⟩ := Maps.keyOf_int_inv hk hkey; exact ⟨x, rfl⟩) (fun v y hv => ⟨v, rfl⟩) b r n D left cnt hit h hDone ?_
  intro x c kl y w' cnt' hkey hlk hv hat hrg hlt hgr hsz hen
  obtain ⟨x', ex, rfl, hwx⟩ := Maps.keyOf_int_inv hk hkey
  cases ex
  obtain ⟨yd, yp⟩ := y
  have hyd : yd = .held c := anyElem_inv hv
  obtain ⟨d1, d2⟩ := d.2 _ (K.key hkey)
  have hf : f (.int .i64 x) = some c := by
    cases hf : f (.int .i64 x) with
    | none =>
      rw [hf] at d1
      have := (atKey_none d1 .nil).symm.trans (hat .nil)
      rw [hyd] at this
      cases this
    | some u =>
      have := (d2 u hf .nil).symm.trans (hat .nil)
      rw [hyd] at this
      injection this with this
      rw [this]
  exact hMore x c w' cnt' hwx hlk hf ⟨D, hrg, d⟩ hlt hgr hsz hen
end
/-- Two rising lists of the same numbers are one. -/
theorem rising_ext : ∀ (l m : List Int), l.Pairwise (· < ·) → m.Pairwise (· < ·) → (∀ x, x ∈ l ↔ x ∈ m) → l = m
  | [], [], _, _, _ => rfl
  | [], y :: m, _, _, h => by have := (h y).2 List.mem_cons_self; cases this
  | x :: l, [], _, _, h => by have := (h x).1 List.mem_cons_self; cases this
  | x :: l, y :: m, hl, hm, h => by
    rw [List.pairwise_cons] at hl hm
    have e : x = y := by
      rcases List.mem_cons.1 ((h x).1 List.mem_cons_self) with e | e
      · exact e
      · rcases List.mem_cons.1 ((h y).2 List.mem_cons_self) with e2 | e2
        · exact e2.symm
        · have a := hm.1 x e; have b := hl.1 y e2; omega
    subst e
    congr 1
    refine rising_ext l m hl.2 hm.2 fun z => ⟨fun hz => ?_, fun hz => ?_⟩
    · rcases List.mem_cons.1 ((h z).1 (List.mem_cons_of_mem _ hz)) with e | e
      · have := hl.1 z hz; omega
      · exact e
    · rcases List.mem_cons.1 ((h z).2 (List.mem_cons_of_mem _ hz)) with e | e
      · have := hm.1 z hz; omega
      · exact e
end Go.Proofs.YtgafajbdmegfgaaGreat
namespace Go.Proofs.YtgafajbdmegfgaaGreat
open Go.RowKit Go.Maps Go.ChangeMaps Go.MapKept

def keyI (f : Int → Option Value) : Lit → Option Value
  | .int .i64 x => f x
  | _ => none
theorem keyI_at (f : Int → Option Value) (x : Int) : keyI f (.int .i64 x) = f x := rfl
theorem keyI_put (f : Int → Option Value) (x : Int) (v : Value) : fput (keyI f) (.int .i64 x) v = keyI (fun y => if y = x then some v else f y) := by
  funext kl
  unfold fput
  cases kl with
  | int q y =>
    cases q <;> simp [Lit.sameKey, keyI]
  | _ => simp [Lit.sameKey, keyI]
theorem keyI_del (f : Int → Option Value) (x : Int) : fdel (keyI f) (.int .i64 x) = keyI (fun y => if y = x then none else f y) := by
  funext kl
  unfold fdel
  cases kl with
  | int q y =>
    cases q <;> simp [Lit.sameKey, keyI]
  | _ => simp [Lit.sameKey, keyI]
theorem Mp.congr {w : World} {P : Program} {k : TypeId} {b n : Nat} {f g : Lit → Option Value} (h : Mp w P k b n f) (e : f = g) : Mp w P k b n g := e ▸ h
theorem nodup_len_le {α : Type} : ∀ (l m : List α), l.Nodup → (∀ x ∈ l, x ∈ m) → l.length ≤ m.length
  | [], m, _, _ => Nat.zero_le _
  | a :: l, m, hn, h => by
    obtain ⟨s, t, rfl⟩ := List.append_of_mem (h a List.mem_cons_self)
    rw [List.nodup_cons] at hn
    have := nodup_len_le l (s ++ t) hn.2 (fun x hx => by
      have h1 := h x (List.mem_cons_of_mem _ hx)
      rw [List.mem_append, List.mem_cons] at h1
      rw [List.mem_append]
      rcases h1 with h1 | h1 | h1
      · exact .inl h1
      · subst h1; exact absurd hx hn.1
      · exact .inr h1)
    simp only [List.length_append, List.length_cons] at this ⊢
    omega
/-- len: as many as a list that names each key once. -/
theorem Mp.len {w : World} {P : Program} {k : TypeId} {b n : Nat} {f : Int → Option Value} (h : Mp w P k b n (keyI f)) (K : Keyed P k) {t e : TypeId} (ht : P.underlying t = some (.map k e)) (ty : TypeId) (L : List Int) (hn : L.Nodup) (hL : ∀ x, x ∈ L ↔ (f x).isSome = true) :
    (Builtin.len_ #[t] ty #[.map (some b)]).run P w = .ok (.int .i64 L.length) w := by
  obtain ⟨D, h1, h2, h3⟩ := h
  have hr := h1.len ht ty
  obtain ⟨es, rfl, hd, hk⟩ := h1.entries K
  have hm : ∀ x, x ∈ es.map (·.1) ↔ x ∈ L.map (Lit.int .i64) := fun x => by
    constructor
    · intro hx
      obtain ⟨p, hp, rfl⟩ := List.mem_map.1 hx
      have hkl := hk p hp
      have := (h3 p.1 hkl).1
      have ha : Maps.has (DataW.map es) p.1 = true := List.any_eq_true.2 ⟨p, hp, WideAt.sameKey_self hkl⟩
      rw [ha] at this
      obtain ⟨pl, pd⟩ := p
      cases pl with
      | int q y =>
        cases q with
        | i64 => exact List.mem_map.2 ⟨y, (hL y).2 this.symm, rfl⟩
        | _ => cases this
      | _ => cases this
    · intro hx
      obtain ⟨y, hy, rfl⟩ := List.mem_map.1 hx
      have h5 := (h3 (.int .i64 y) trivial).1
      have h6 : (keyI f (.int .i64 y)).isSome = true := (hL y).1 hy
      rw [h6] at h5
      obtain ⟨p, hp, hs⟩ := List.any_eq_true.1 h5
      exact List.mem_map.2 ⟨p, hp, WideAt.sameKey_eq hs⟩
  have n1 : (es.map (·.1)).Nodup := by
    rw [List.nodup_iff_pairwise_ne, List.pairwise_map]
    exact hd
  have n2 : (L.map (Lit.int .i64)).Nodup := by
    rw [List.nodup_iff_pairwise_ne, List.pairwise_map]
    exact (List.nodup_iff_pairwise_ne.1 hn).imp fun hne e => hne (by injection e)
  have l1 := nodup_len_le _ _ n1 (fun x hx => (hm x).1 hx)
  have l2 := nodup_len_le _ _ n2 (fun x hx => (hm x).2 hx)
  simp only [List.length_map] at l1 l2
  have : Maps.size (DataW.map es) = es.length := rfl
  rw [hr, this, show es.length = L.length by omega]
section
variable {P : Program} (w : World) {ops : Array Oper} {rest : List Oper} {o : Oper} {a : Act} {Q : Exit → Act → World → Prop}
theorem wpList_mpr_delete (hg : o.guard = none) (m x : Operand) (t k : TypeId) (hop : o.op = Op.call { callee := Callee.builtin Builtin.delete, args := #[m, x], argTypes := #[t, k] })
    (e : TypeId) (K : Keyed P k) (ht : P.underlying t = some (.map k e)) (b r n : Nat) (f : Lit → Option Value) (left : Lit → Bool) (cnt : Nat)
    (hm : a.eval m = .map (some b)) (h : MpR w P k b r n f left cnt) (key : Value) (kl : Lit) (hx : a.eval x = key) (hkey : keyOf P k key = some kl)
    (hK : ∀ w' cnt', MpR w' P k b r n (fdel f kl) (fun z => left z && !z.sameKey kl) cnt' → cnt' ≤ cnt → w.grownBy w' (some b) → wpList P ops Q rest (a.put o.dst (.tuple #[])) w') :
    wpList P ops Q (o :: rest) a w := by
  obtain ⟨D, h, d⟩ := h
  exact wpList_delete_ranges w hg m x t k hop e K ht anyElem b r n D left cnt hm h key kl hx hkey fun w' cnt' h1 h2 h3 => hK w' cnt' ⟨D.del kl, h1, d.del (K.key hkey)⟩ h2 h3.grown
end
end Go.Proofs.YtgafajbdmegfgaaGreat
