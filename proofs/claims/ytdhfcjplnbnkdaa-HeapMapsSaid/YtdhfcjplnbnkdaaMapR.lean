/- A range over a map of one's own with keys of int: what is still to come. No program in sight. -/
import Derived.Test.YtdhfcjplnbnkdaaMap
set_option linter.unusedVariables false
set_option linter.unusedSimpArgs false
namespace Go.Proofs.Ytdhfcjplnbnkdaa
open Go.RowKit Go.Maps Go.ChangeMaps Go.MapKept

/-- Block r is a range over the map in block b, which is these; those for which 'left' says so are still to come. -/
def MpR (w : World) (P : Program) (k : TypeId) (b r n : Nat) (f : Lit → Option Value) (left : Lit → Bool) (cnt : Nat) : Prop := ∃ D : DataW Value, w.ranges P k anyElem b r n D left cnt ∧ Hds D f
namespace MpR
variable {w w' : World} {P : Program} {k : TypeId} {b r n cnt : Nat} {f : Lit → Option Value} {left : Lit → Bool}
theorem mp (h : MpR w P k b r n f left cnt) : Mp w P k b n f := by obtain ⟨D, h, d⟩ := h; exact ⟨D, h.owns, d⟩
theorem left_eq (h : MpR w P k b r n f left cnt) : w.rangeLeft b r = cnt := by obtain ⟨D, h, d⟩ := h; exact h.left_eq
theorem lt (h : MpR w P k b r n f left cnt) : r < w.heap.size := by obtain ⟨D, h, d⟩ := h; exact h.lt
theorem grown {row : Option Nat} (h : MpR w P k b r n f left cnt) (hg : w.grownBy w' row) (hb : some b ≠ row) (hr : some r ≠ row) : MpR w' P k b r n f left cnt := by obtain ⟨D, h, d⟩ := h; exact ⟨D, h.kept hg hb hr, d⟩
theorem alloc (h : MpR w P k b r n f left cnt) (o : Obj) : MpR (w.alloc o) P k b r n f left cnt := by obtain ⟨D, h, d⟩ := h; exact ⟨D, h.alloc o, d⟩
end MpR
section
variable {P : Program} (w : World) {ops : Array Oper} {rest : List Oper} {o : Oper} {a : Act} {Q : Exit → Act → World → Prop}
theorem wpList_mp_range (hg : o.guard = none) (m : Operand) (t : TypeId) (hop : o.op = Op.range t m) (k e : TypeId) (K : Keyed P k) (ht : P.underlying t = some (.map k e)) (b n : Nat) (f : Lit → Option Value)
    (hm : a.eval m = .map (some b)) (hown : Mp w P k b n f)
    (hK : ∀ w' left cnt, (∀ kl, WideAt.IsKeyLit kl → left kl = (f kl).isSome) → MpR w' P k b w.heap.size n f left cnt → w.grownBy w' none → w'.heap.size = w.heap.size + 1 → wpList P ops Q rest (a.put o.dst (.pointer (some ⟨w.heap.size, 0, none⟩))) w') :
    wpList P ops Q (o :: rest) a w := by
  obtain ⟨D, h, d⟩ := hown
  exact wpList_range_own w hg m t hop k e K ht anyElem b n D hm h fun w' h1 h2 h3 => hK w' _ _ (fun kl hk => (d.2 kl hk).1) ⟨D, h1, d⟩ h2 h3
theorem wpList_mp_next (hg : o.guard = none) (it : Operand) (hop : o.op = Op.next it false) (k : TypeId) (K : Keyed P k) (hk : P.underlying k = some (.int .i64)) (b r n : Nat) (f : Lit → Option Value) (left : Lit → Bool) (cnt : Nat)
    (hit : a.eval it = .pointer (some ⟨r, 0, none⟩)) (h : MpR w P k b r n f left cnt)
    (hDone : cnt = 0 → (∀ kl, left kl = false) → wpList P ops Q rest (a.put o.dst (.tuple #[.bool false])) w)
    (hMore : ∀ (x : Int) (c : Value) (w' : World) (cnt' : Nat), (Lit.int .i64 x).wf = true → left (.int .i64 x) = true → f (.int .i64 x) = some c → MpR w' P k b r n f (fun z => left z && !z.sameKey (.int .i64 x)) cnt' → cnt' < cnt →
      w.grownBy w' (some r) → w'.heap.size = w.heap.size → (Instr.entry (.pointer (some ⟨r, 0, none⟩))).run P w' = .ok (.tuple #[.int .i64 x, c]) w' → wpList P ops Q rest (a.put o.dst (.tuple #[.bool true, .int .i64 x, c])) w') :
    wpList P ops Q (o :: rest) a w := by
  obtain ⟨D, h, d⟩ := h
  refine wpList_next_ranges w hg it hop k K anyElem (Value.int .i64) id (fun key kl hkey => by obtain ⟨x, rfl, _⟩ := Maps.keyOf_int_inv hk hkey; exact ⟨x, rfl⟩) (fun v y hv => ⟨v, rfl⟩) b r n D left cnt hit h hDone ?_
  intro x c kl y w' cnt' hkey hlk hv hat hrg hlt hgr hsz hen
  obtain ⟨x', ex, rfl, hwx⟩ := Maps.keyOf_int_inv hk hkey
  cases ex
  obtain ⟨yd, yp⟩ := y
  have hyd : yd = .held c := anyElem_inv hv
  obtain ⟨d1, d2⟩ := d.2 _ (K.key hkey)
  have hf : f (.int .i64 x) = some c := by
    cases hf : f (.int .i64 x) with
    | none =>
      rw [hf] at d1
      have := (atKey_none d1 .nil).symm.trans (hat .nil)
      rw [hyd] at this
      cases this
    | some u =>
      have := (d2 u hf .nil).symm.trans (hat .nil)
      rw [hyd] at this
      injection this with this
      rw [this]
  exact hMore x c w' cnt' hwx hlk hf ⟨D, hrg, d⟩ hlt hgr hsz hen
end
/-- Two rising lists of the same numbers are one. -/
theorem rising_ext : ∀ (l m : List Int), l.Pairwise (· < ·) → m.Pairwise (· < ·) → (∀ x, x ∈ l ↔ x ∈ m) → l = m
  | [], [], _, _, _ => rfl
  | [], y :: m, _, _, h => by have := (h y).2 List.mem_cons_self; cases this
  | x :: l, [], _, _, h => by have := (h x).1 List.mem_cons_self; cases this
  | x :: l, y :: m, hl, hm, h => by
    rw [List.pairwise_cons] at hl hm
    have e : x = y := by
      rcases List.mem_cons.1 ((h x).1 List.mem_cons_self) with e | e
      · exact e
      · rcases List.mem_cons.1 ((h y).2 List.mem_cons_self) with e2 | e2
        · exact e2.symm
        · have a := hm.1 x e; have b := hl.1 y e2; omega
    subst e
    congr 1
    refine rising_ext l m hl.2 hm.2 fun z => ⟨fun hz => ?_, fun hz => ?_⟩
    · rcases List.mem_cons.1 ((h z).1 (List.mem_cons_of_mem _ hz)) with e | e
      · have := hl.1 z hz; omega
      · exact e
    · rcases List.mem_cons.1 ((h z).2 (List.mem_cons_of_mem _ hz)) with e | e
      · have := hm.1 z hz; omega
      · exact e
end Go.Proofs.Ytdhfcjplnbnkdaa
