/- The walks of the law's own peek: Next, Range. -/
import Derived.Test.YtokghbppdmlfkaaDoorPlnWalk
import Derived.Test.YtokghbppdmlfkaaDoorKept
import Derived.Laws.AppendOwnNone
set_option linter.unusedVariables false
set_option linter.unusedSimpArgs false
namespace Go.Proofs.YtokghbppdmlfkaaDoor
open Go.RowKit

/-- An operation. -/
structure Opn where
  k : Int
  st : Int
  key : ByteArray
  val : ByteArray
  num : Int
  at_ : Int
  len : Int
def Opn.cs (o : Opn) : Array Value := #[.int .i64 o.k, .int .i64 o.st, .string o.key, .string o.val, .int .i64 o.num, .int .i64 o.at_, .int .i64 o.len]
def pkcs (o : Opn) (nx : ByteArray) (kv : Value) (err : Int) : Array Value := #[.int .i64 o.k, .int .i64 o.st, .string o.key, .string o.val, .int .i64 o.num, .int .i64 o.at_, .int .i64 o.len, .string nx, kv, .int .i64 err]

theorem wpList_copy_texts {ops : Array Oper} {rest : List Oper} {o : Oper} {a : Act} {w : World} {Q : Exit → Act → World → Prop} (hgd : o.guard = none) (s x : Operand)
    (ho : o.op = .call { callee := .builtin .append, args := #[s, x], argTypes := #[24, 24] }) (v : Value) (l : List ByteArray) (hs : a.eval s = .slice none 0 0) (hx : a.eval x = v) (B : Nat) (hB : B ≤ w.heap.size)
    (hv : TxAt w w.heap.size v l) (hn : l.length * 16 ≤ 140737488351232)
    (h : ∀ v' w', w'.ownsRow B 9 1 v' l.length (l.map Value.string) → Below w.heap.size w w' → wpList Tryd.prog ops Q rest (a.put o.dst v') w') : wpList Tryd.prog ops Q (o :: rest) a w := by
  obtain ⟨i0, hi, hz0, hz1, hz2⟩ := info_parts Tryd.info9
  obtain ⟨ad, c, rfl, hnil, hv⟩ := hv
  rcases ad with _ | ad
  · obtain ⟨h0, rfl⟩ := hnil rfl
    have hl : l = [] := List.eq_nil_of_length_eq_zero h0
    subst hl
    exact wpList_append_own_none hgd s x 24 ho B 9 i0 1 Tryd.underlying24 hi _ 0 [] hs ⟨rfl, .inl ⟨rfl, rfl⟩⟩ hx (h _ _ ⟨rfl, .inl ⟨rfl, rfl⟩⟩ (Below.refl _ _))
  · refine wpList_append_own _ hgd s x 24 ho B 9 i0 (.string ⟨#[]⟩) 1 16 Tryd.underlying24 hi hz0 hz1 hz2 rfl (by decide) _ 0 [] hs ⟨rfl, .inl ⟨rfl, rfl⟩⟩ ad l.length c (l.map Value.string) hx ?_ ?_ ?_ ?_ ?_ hB ?_
    · simp
    · intro j u hj
      have hjn : j < l.length := by
        have := (List.getElem?_eq_some_iff.1 hj).1
        simpa using this
      obtain ⟨b, off, e, _, hc⟩ := hv (by omega)
      obtain rfl := Option.some.inj e
      rw [Addr.add_lit]
      rw [List.getElem?_map, List.getElem?_eq_getElem hjn] at hj
      injection hj with hj
      subst hj
      exact hc j _ (List.getElem?_eq_getElem hjn)
    · intro u hu; obtain ⟨x, _, rfl⟩ := List.mem_map.1 hu; rfl
    · unfold maxLen; omega
    · omega
    · intro v' w2 hown hgrow hnil'
      refine h _ _ (by simpa using hown) ?_
      exact below_only hgrow

set_option maxHeartbeats 1000000 in
theorem pnext_any (o : Opn) (nx : ByteArray) (kv : Value) (err : Int) (w : World) :
    Calls Tryd.prog 42 #[.agg (pkcs o nx kv err), .int .i64 o.st, .string o.key] w fun e w' => e = .returned (.tuple #[.string (if err = 0 then nx else ⟨#[]⟩), .int .i64 err]) ∧ Below w.heap.size w w' := by
  have B0 := Lib.hid ((Below.refl w.heap.size w).alloc (Nat.le_refl _) (.cells (pkcs o nx kv err) 32))
  have h1 : (o.st != o.st) = false := by simp
  have h2 : (o.key.toList != o.key.toList) = false := by simp
  unfold pkcs at *
  by_cases he : err = 0
  · rw [if_pos he]
    subst he
    go_enter Tryd.func42, Tryd.ntmps42
    go_wp2
    go_ret2
    exact ⟨rfl, B0.out⟩
  · rw [if_neg he]
    have h3 : (err != 0) = true := by simp [he]
    clear he
    go_enter Tryd.func42, Tryd.ntmps42
    go_wp2_with fail
    go_quiet (fail)
    go_wp2
    go_ret2
    exact ⟨rfl, below_drewN B0.out _⟩
theorem tx_own {w : World} {B : Nat} {v : Value} {l : List ByteArray} (h : w.ownsRow B 9 1 v l.length (l.map Value.string)) : TxAt w w.heap.size v l := by
  rcases h.2 with ⟨rfl, h0⟩ | ⟨g, cap, cur, rfl, r⟩
  · have hl : l = [] := List.eq_nil_of_length_eq_zero h0
    subst hl
    exact ⟨none, 0, rfl, fun _ => ⟨rfl, rfl⟩, fun h => absurd h (Nat.lt_irrefl 0)⟩
  · refine ⟨some ⟨g, 0, none⟩, cap, rfl, (fun h => by cases h), fun _ => ⟨g, 0, rfl, (h.lt g rfl).2, fun i s hs => ?_⟩⟩
    have := h.cells (g := g) rfl i (.string s) (by rw [List.getElem?_map, hs]; rfl)
    rw [Addr.add_lit] at this
    exact this
theorem tx_nil (w : World) (B : Nat) : TxAt w B (.slice none 0 0) [] := ⟨none, 0, rfl, fun _ => ⟨rfl, rfl⟩, fun h => absurd h (Nat.lt_irrefl 0)⟩

set_option maxHeartbeats 1000000 in
theorem prange_any (o : Opn) (nx : ByteArray) (kv : Value) (ks : List ByteArray) (err : Int) (w : World) (hK : TxAt w w.heap.size kv ks) (hn : ks.length ≤ 2000000) :
    Calls Tryd.prog 43 #[.agg (pkcs o nx kv err), .int .i64 o.st, .string o.key, .int .i64 o.num] w fun e w' => ∃ v, e = .returned (.tuple #[v, .int .i64 err]) ∧ TxAt w' w'.heap.size v (if err = 0 then ks else []) ∧ Below w.heap.size w w' := by
  have B0 := Lib.hid ((Below.refl w.heap.size w).alloc (Nat.le_refl _) (.cells (pkcs o nx kv err) 32))
  have HK := Lib.hid ((hK.below B0.out (Nat.le_refl _)).mono B0.out.size)
  have HN := Lib.hid hn
  obtain ⟨ka, kc, rfl, _, _⟩ := hK
  have h1 : (o.st != o.st) = false := by simp
  have h2 : (o.key.toList != o.key.toList) = false := by simp
  have h3 : (o.num != o.num) = false := by simp
  unfold pkcs at *
  clear hn
  by_cases he : err = 0
  · rw [if_pos he]
    subst he
    go_enter Tryd.func43, Tryd.ntmps43
    go_wp2_with (refine wpList_copy_texts rfl _ _ rfl _ ks rfl rfl w.heap.size (by simp) HK.out (by have := HN.out; omega) ?_)
    intro v' w2 hown hb2
    have T := Lib.hid (tx_own hown)
    have B2 := Lib.hid (B0.out.trans (hb2.mono (by simp)))
    obtain ⟨va, vc, hva, _⟩ := T.out
    subst hva
    clear hown hb2
    go_wp2
    go_ret2
    exact ⟨_, rfl, T.out, B2.out⟩
  · rw [if_neg he]
    have h4 : (err != 0) = true := by simp [he]
    clear he
    go_enter Tryd.func43, Tryd.ntmps43
    go_wp2_with fail
    go_quiet (fail)
    go_wp2
    go_ret2
    exact ⟨_, rfl, tx_nil _ _, below_drewN B0.out _⟩

theorem meth_next (pc : Array Value) (w : World) : (method 184 32 (.agg pc) "Next").run Tryd.prog w = .ok (42, .agg pc) w := by kernel_rfl
theorem meth_range (pc : Array Value) (w : World) : (method 184 32 (.agg pc) "Range").run Tryd.prog w = .ok (43, .agg pc) w := by kernel_rfl
/-- The peek as an interface's value. -/
def pkv (o : Opn) (nx : ByteArray) (kv : Value) (err : Int) : Value := .iface 32 (.agg (pkcs o nx kv err))
set_option maxHeartbeats 1000000 in
theorem next_any (o q : Opn) (nx : ByteArray) (kv : Value) (err : Int) (w : World) (hs : q.st = o.st) (hk : q.key = o.key) :
    Calls Tryd.prog 22 #[pkv o nx kv err, .agg q.cs] w fun e w' => e = .returned (.tuple #[.string (placeB (if err = 0 then nx else ⟨#[]⟩)), .int .i64 err]) ∧ Below w.heap.size w w' := by
  have B0 := Lib.hid ((Below.refl w.heap.size w).alloc (Nat.le_refl _) (.cells q.cs 23))
  have C := Lib.hid (fun w => pnext_any o nx kv err w)
  have P := Lib.hid place_any
  have hm := meth_next (pkcs o nx kv err)
  obtain ⟨k, st, key, val, num, at_, len⟩ := q
  dsimp only at hs hk
  subst hs hk
  unfold Opn.cs pkv at *
  generalize pkcs o nx kv err = pc at *
  generalize (if err = 0 then nx else ⟨#[]⟩) = rr at *
  go_enter Tryd.func22, Tryd.ntmps22
  go_wp2_with fail
  refine (C.out _).mono ?_
  rintro e w1 ⟨rfl, hb⟩
  have B1 := Lib.hid (below_then B0.out hb B0.out.size)
  clear hb
  go_wp2_with fail
  refine (P.out _ _).mono ?_
  rintro e w2 ⟨rfl, rfl⟩
  go_wp2
  go_ret2
  exact ⟨rfl, B1.out⟩

/-- What an operation on one key wants, by what the peek answers. -/
def keyL (q : Opn) (nx : ByteArray) (err : Int) : List Nd :=
  let mode : Int := if q.k = 14 then 3 else 6
  let at_ := placeB nx
  if err ≠ 0 then aboveL q.st mode
  else if q.k = 13 ∧ at_ ≠ q.key then itemsL q.st mode [q.key, at_]
  else if q.k ≠ 13 ∧ at_ ≠ q.key then itemsL q.st 3 [at_]
  else itemsL q.st mode [at_]
theorem op_load {w : World} {g : Nat} {q : Opn} (h : Bk w g 23 q.cs) : w.cell? ⟨g, 0, none⟩ = some (.int .i64 q.k) ∧ w.cell? ⟨g, 1, none⟩ = some (.int .i64 q.st) ∧ w.cell? ⟨g, 2, none⟩ = some (.string q.key) ∧ w.cell? ⟨g, 3, none⟩ = some (.string q.val) ∧ w.cell? ⟨g, 4, none⟩ = some (.int .i64 q.num) ∧ w.cell? ⟨g, 5, none⟩ = some (.int .i64 q.at_) ∧ w.cell? ⟨g, 6, none⟩ = some (.int .i64 q.len) :=
  ⟨h.cell 0, h.cell 1, h.cell 2, h.cell 3, h.cell 4, h.cell 5, h.cell 6⟩
theorem tx_new (w : World) (cs : Array Value) (l : List ByteArray) (h : cs.toList = l.map Value.string) : TxAt (w.alloc (.cells cs 9)) (w.alloc (.cells cs 9)).heap.size (.slice (some ⟨w.heap.size, 0, none⟩) l.length l.length) l := by
  refine ⟨_, _, rfl, (fun h => by cases h), fun _ => ⟨w.heap.size, 0, rfl, by simp, fun i s hs => ?_⟩⟩
  have e := (Bk.new w 9 cs).cell i
  rw [Nat.zero_add, e]
  have : cs.toList[i]? = some (.string s) := by rw [h, List.getElem?_map, hs]; rfl
  simpa using this
theorem nd_mono {w : World} {B B' : Nat} {v : Value} {l : List Nd} (h : NdAt w B' v l) (hB : B ≤ B') : NdAt w B v l :=
  ⟨h.1, by rcases h.2 with h | ⟨g, cap, cur, h1, h2, h3⟩; exact .inl h; exact .inr ⟨g, cap, cur, h1, Nat.le_trans hB h2, h3⟩⟩
theorem nd_slice {w : World} {B : Nat} {v : Value} {l : List Nd} (h : NdAt w B v l) : ∃ a c, v = .slice a l.length c := by
  rcases h.2 with ⟨rfl, h0⟩ | ⟨g, cap, cur, rfl, _⟩
  · exact ⟨none, 0, by rw [h0]⟩
  · exact ⟨_, _, rfl⟩
end Go.Proofs.YtokghbppdmlfkaaDoor
