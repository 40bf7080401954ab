/- A table, its lines and its arcs, as the laws meet them. -/
import Derived.Test.YtnpnpkaklamboaaDoorLkAllW
import Derived.Test.YtnpnpkaklamboaaDoorLkTg
import Derived.Test.YtnpnpkaklamboaaDoorLkN2
import Derived.Deep.CutBlock
import Derived.Deep.DeepCutAuto
set_option linter.unusedVariables false
set_option linter.unusedSimpArgs false
namespace Go.Proofs.YtnpnpkaklamboaaDoor
open Go.RowKit Go.Shelf

theorem L1.more {w0 w : World} {S : Nat → Prop} {t k : Nat} {T : Tbl} (h : L1 w0 S w t k T) {m : Nat} (hm : k ≤ m) : L1 w0 S w t m T := by
  obtain ⟨F, h1, h2, h3⟩ := h.lt
  exact ⟨⟨F, h1.mono hm, h2, h3⟩, h.kp⟩
theorem L1.bd {w0 w : World} {S : Nat → Prop} {t k : Nat} {T : Tbl} (h : L1 w0 S w t k T) : T.bd := by
  obtain ⟨F, h1, h2, h3⟩ := h.lt
  exact h1.bd
theorem all_in {T : Tbl} (bd : T.bd) {A : List H5} (hA : T.allOf A) {a : H5} (ha : a ∈ A) : I64 a.x ∧ a.m ≤ 6 ∧ a.w ≤ 6 := by
  obtain ⟨L, _, _, hm, rfl⟩ := hA
  obtain ⟨n, hn, hl⟩ := List.mem_flatMap.1 ha
  have b := bd.at_ n
  unfold lines at hl
  rcases List.mem_append.1 hl with h | h
  · obtain ⟨g, hg, rfl⟩ := List.mem_map.1 h
    exact b.hs g hg
  · obtain ⟨p, hp, rfl⟩ := List.mem_map.1 h
    exact ⟨(b.ws p hp).1, Nat.zero_le _, (b.ws p hp).2⟩
section
variable {w0 w w' : World} {S : Nat → Prop} {t k : Nat} {T : Tbl}
theorem l1_any (h : L1 w0 S w t k T) (hk : k ≤ 300) (x : Int) (hx : I64 x) (n : Nm) (hn : n.wf) (m : Int) :
    Calls Tryd.prog 12 #[ptr t, .int .i64 x, .agg #[.int .i64 n.s, .string n.t], .int .i64 m] w fun e w' => ∃ b c T', e = .returned (.tuple #[.bool b, .int .i64 c]) ∧ L1 w0 S w' t (k + 1) T' ∧ Ks S w w' := by
  by_cases hm : m ≤ 0 ∨ 6 < m
  · exact (l1_arg h x m n hm).mono fun e w' ⟨a, b, c⟩ => ⟨_, _, _, a, b.more (Nat.le_succ k), c⟩
  · obtain ⟨m', rfl⟩ : ∃ k : Nat, m = k := ⟨m.toNat, by omega⟩
    cases hw : T.wt x with
    | none => exact (l1_ask h hk x hx n hn m' (by omega) (by omega) hw).mono fun e w' ⟨a, b, c⟩ => ⟨_, _, _, a, b, c⟩
    | some q => exact (l1_busy h x m' hx n (by omega) (by omega) (by rw [hw]; rfl)).mono fun e w' ⟨a, b, c⟩ => ⟨_, _, _, a, b.more (Nat.le_succ k), c⟩
theorem l1_all (h : L1 w0 S w t k T) (hk : k ≤ 301) :
    Calls Tryd.prog 13 #[ptr t] w fun e w' => ∃ v' A, e = .returned v' ∧ T.allOf A ∧ A.length ≤ 1300000 ∧ Rk w' (fun i => w.heap.size ≤ i) 39 5 aC v' A ∧ Below w.heap.size w w' := by
  obtain ⟨F, h1, h2, h3⟩ := h.lt
  exact table_all h1.tm h1.few (by omega) (by omega)
end
/-- A table, its lines and its arcs. -/
structure TG (w0 w : World) (t k : Nat) (T : Tbl) (v6 : Value) (A : List H5) (v7 : Value) (B : List (Int × Int)) : Prop where
  l : L1 w0 (fun _ => False) w t k T
  a : Rk w (fun _ => True) 39 5 aC v6 A
  b : Rk w (fun _ => True) 41 2 pC v7 B
theorem TG.kept {w0 w w' : World} {t k : Nat} {T : Tbl} {v6 : Value} {A : List H5} {v7 : Value} {B : List (Int × Int)} (h : TG w0 w t k T v6 A v7 B) (hb : Below w.heap.size w w') : TG w0 w' t k T v6 A v7 B :=
  ⟨h.l.kept hb, h.a.kept hb, h.b.kept hb⟩
section
variable {ops : Array Oper} {rest : List Oper} {o : Oper} {a : Act} {w : World} {Q : Exit → Act → World → Prop}
theorem load_ln (hgd : o.guard = none) (x : Operand) (ho : o.op = .load 39 x) (b off : Nat) (h : H5) (hx : a.eval x = .pointer (some ⟨b, off, none⟩)) (hr : w.rangeAt b off (aC h))
    (hK : wpList Tryd.prog ops Q rest (a.put o.dst (.agg #[.int .i64 h.n.s, .string h.n.t, .int .i64 h.x, .int .i64 (h.m : Int), .int .i64 (h.w : Int)])) w) : wpList Tryd.prog ops Q (o :: rest) a w :=
  wpList_load_mid hgd 39 x ho b off hx (aC h) _ hr Tryd.underlying39 rfl (by rw [aC_len]; kernel_rfl) hK
theorem load_pr (hgd : o.guard = none) (x : Operand) (ho : o.op = .load 41 x) (b off : Nat) (p : Int × Int) (hx : a.eval x = .pointer (some ⟨b, off, none⟩)) (hr : w.rangeAt b off (pC p))
    (hK : wpList Tryd.prog ops Q rest (a.put o.dst (.agg #[.int .i64 p.1, .int .i64 p.2])) w) : wpList Tryd.prog ops Q (o :: rest) a w :=
  wpList_load_mid hgd 41 x ho b off hx (pC p) _ hr Tryd.underlying41 rfl (by rw [pC_len]; kernel_rfl) hK
theorem wp_cmpT (hgd : o.guard = none) (bo : BinOp) (t t' : TypeId) (hg : Tryd.prog.eqGuardType Tryd.prog.depth t = false) (y z : Operand) (ho : o.op = .binOp bo t y z t') (c d : Array Value) (u : Value) (hx : a.eval y = .agg c) (hy : a.eval z = .agg d)
    (hr : (binOp bo t (.agg c) (.agg d)).run Tryd.prog w = .ok u w) (hK : wpList Tryd.prog ops Q rest (a.put o.dst u) w) : wpList Tryd.prog ops Q (o :: rest) a w := by
  refine wpList_plain hgd fun _ hK2 => ?_
  unfold Oper.wp execOp
  have hh : (eqGuard bo t y z (.agg c) (.agg d)).run Tryd.prog w = .ok () w := run_eqGuard_agg _ _ _ _ _ _ _ hg
  simp only [ho, hx, hy, Sem.run_bind, Sem.run_pure, Result.andThen_ok, hr, hh]
  exact hK2 _ _ hK
end
theorem holdElem : Tryd.prog.underlying 34 = some (.slice (Tryd.prog.elem 34)) ∧ Tryd.prog.elem 34 = 39 := by
  have he : Tryd.prog.elem 34 = 39 := by simp [Program.elem, Tryd.underlying34]
  exact ⟨by rw [he]; exact Tryd.underlying34, he⟩
theorem szHold (w : World) : (Go.sizeOf 39).run Tryd.prog w = .ok 5 w := by kernel_rfl
theorem slice_ln (b off n c j : Nat) (h : j + 1 ≤ n) : ∃ ad cc, (∀ W, (Instr.slice 34 (.slice (some ⟨b, off, none⟩) n c) (some (.int .i64 ((j : Int) + 1))) none none).run Tryd.prog W = .ok (.slice (some ad) (n - (j + 1)) cc) W) ∧ (n ≤ c → j + 1 < n → ad = ⟨b, off + (j + 1) * 5, none⟩) := by
  refine ⟨if c = j + 1 then ⟨b, off, none⟩ else (⟨b, off, none⟩ : Addr).add ((j + 1) * 5), c - (j + 1), fun W => ?_, fun hc hlt => ?_⟩
  · have := run_slice_l (P := Tryd.prog) (w := W) 34 (some ⟨b, off, none⟩) n c holdElem.1 .i64 ((j : Int) + 1) (by omega) (by omega)
    rw [holdElem.2, szHold] at this
    rw [this]
    unfold sliced
    have e : ((j : Int) + 1).toNat = j + 1 := by omega
    simp only [e, Result.andThen]
    by_cases hc : c = j + 1
    · rw [if_pos hc, if_pos hc]
    · rw [if_neg hc, if_neg hc]; rfl
  · rw [if_neg (by omega)]
    rfl
section
variable {P : Program} {w : World} {ops : Array Oper} {rest : List Oper} {o : Oper} {a : Act} {Q : Exit → Act → World → Prop}
theorem wpList_slice_as (hgd : o.guard = none) (t : TypeId) (x l : Operand) (ho : o.op = .slice t x (some l) none none) (ht : P.underlying t = some (.slice (P.elem t))) (v lv u : Value) (hx : a.eval x = v) (hl : a.eval l = lv)
    (hr : (Instr.slice t v (some lv) none none).run P w = .ok u w) (h : wpList P ops Q rest (a.put o.dst u) w) : wpList P ops Q (o :: rest) a w := by
  refine wpList_plain hgd fun K hK => ?_
  unfold Oper.wp execOp
  simp only [ho, Option.map_some, Option.map_none, hx, hl, run_sliceAt_slice w t v _ _ _ ht, hr, Sem.run_bind, Sem.run_pure, Result.andThen_ok]
  exact hK _ _ h
end
end Go.Proofs.YtnpnpkaklamboaaDoor
