/- Names as keys of a map; what a map of names holds. -/
import Derived.Test.YtnpnpkaklamboaaDoorLkMem
import Derived.Test.YtnpnpkaklamboaaDoorMap
import Derived.DeepKeys4
set_option linter.unusedVariables false
set_option linter.unusedSimpArgs false
namespace Go.Proofs.YtnpnpkaklamboaaDoor
open Go.RowKit Go.Maps Go.ChangeMaps Go.MapKept

@[reducible] def nC (n : Nm) : List Value := [.int .i64 n.s, .string n.t]
@[reducible] def nV (n : Nm) : Value := .agg #[.int .i64 n.s, .string n.t]
def Nm.wf (n : Nm) : Prop := (Lit.int .i64 n.s).wf = true ∧ n.t.size ≤ maxLen
def nk (n : Nm) : Lit := .string (keyBytes [.int .i64 n.s, .string n.t.data.toList])
theorem nm_laid : laidOutB Tryd.prog = true := by kernel_rfl
theorem nm_wide : (match Tryd.prog.underlying 27 with | some (.array _ _) | some (.struct _) => true | _ => false) = true := by kernel_rfl
theorem nm_row : (27 : TypeId) < Tryd.prog.types.size := of_decide_eq_true (by kernel_rfl)
theorem nm_kt : Tryd.prog.keyTypeAt 3 27 = true := by kernel_rfl
set_option maxRecDepth 100000 in
theorem nm_keyed : Keyed Tryd.prog 27 := Keyed.of_law (deep_law_laid nm_laid (m := 3) (by omega) nm_row nm_kt nm_wide)
theorem nm_cells : Tryd.prog.cellsOf 27 = 2 := by kernel_rfl
theorem nm_c1 : Tryd.prog.cellsOf 3 = 1 := by kernel_rfl
theorem nm_c2 : Tryd.prog.cellsOf 9 = 1 := by kernel_rfl
theorem nm_types : ∃ m, Tryd.prog.types.size = m + 1 := ⟨Tryd.prog.types.size - 1, by have : 0 < Tryd.prog.types.size := of_decide_eq_true (by kernel_rfl); omega⟩
theorem nk_of {n : Nm} (h : n.wf) : keyOf Tryd.prog 27 (nV n) = some (nk n) := by
  have hkt : Tryd.prog.keyType 27 = true := by kernel_rfl
  obtain ⟨m, hm⟩ := nm_types
  unfold keyOf
  simp only [Tryd.underlying27]
  rw [if_pos (by simp [hkt, Value.formed, Tryd.underlying27, nm_cells]), hm]
  unfold Program.keyLits
  simp only [Tryd.underlying27, Value.cells]
  rw [if_pos (by rw [nm_cells]; exact ⟨rfl, by simp⟩)]
  simp [Program.keyLits, Tryd.underlying3, Tryd.underlying9, nm_c1, nm_c2, h.1, h.2, nk]
theorem key_int {m : Nat} {a : Value} {L : List Lit} (h : Tryd.prog.keyLits m 3 [a] = some L) : ∃ x, a = .int .i64 x ∧ (Lit.int .i64 x).wf = true ∧ L = [.int .i64 x] := by
  cases m with
  | zero => simp [Program.keyLits] at h
  | succ m =>
    unfold Program.keyLits at h
    simp only [Tryd.underlying3] at h
    cases a <;> simp at h
    obtain ⟨⟨rfl, hw⟩, rfl⟩ := h
    exact ⟨_, rfl, hw, rfl⟩
theorem key_str {m : Nat} {a : Value} {L : List Lit} (h : Tryd.prog.keyLits m 9 [a] = some L) : ∃ x : ByteArray, a = .string x ∧ x.size ≤ maxLen ∧ L = [.string x.data.toList] := by
  cases m with
  | zero => simp [Program.keyLits] at h
  | succ m =>
    unfold Program.keyLits at h
    simp only [Tryd.underlying9] at h
    cases a <;> simp at h
    obtain ⟨hw, rfl⟩ := h
    exact ⟨_, rfl, hw, rfl⟩
set_option maxRecDepth 100000 in
theorem nk_inv {v : Value} {l : Lit} (h : keyOf Tryd.prog 27 v = some l) : ∃ n : Nm, n.wf ∧ v = nV n ∧ l = nk n := by
  obtain ⟨xs, L, rfl, hL, rfl⟩ := keyOf_top nm_wide h
  obtain ⟨m, hm⟩ := nm_types
  rw [hm] at hL
  unfold Program.keyLits at hL
  simp only [Tryd.underlying27] at hL
  split at hL
  · rename_i hc
    have h2 : xs.toList.length = 2 := by rw [hc.1, nm_cells]
    obtain ⟨l⟩ := xs
    match l, h2 with
    | [a, b], _ =>
      have e1 : (([a, b] : List Value).drop 0).take (Tryd.prog.cellsOf 3) = [a] := by rw [nm_c1]; rfl
      have e2 : (([a, b] : List Value).drop 1).take (Tryd.prog.cellsOf 9) = [b] := by rw [nm_c2]; rfl
      simp only [List.mapM_cons, List.mapM_nil, e1, e2, Option.map_eq_some_iff, bind, Option.bind_eq_some_iff, pure, Option.some.injEq] at hL
      obtain ⟨LL, ⟨L1, h1, L', ⟨L2, h2', _, rfl, rfl⟩, rfl⟩, rfl⟩ := hL
      obtain ⟨x, rfl, hx, rfl⟩ := key_int h1
      obtain ⟨y, rfl, hy, rfl⟩ := key_str h2'
      exact ⟨⟨x, y⟩, ⟨hx, hy⟩, rfl, rfl⟩
  · cases hL
theorem nk_inj {a b : Nm} (ha : a.wf) (hb : b.wf) (h : nk a = nk b) : a = b := by
  have := nm_keyed.inj (nk_of ha) (by rw [h]; exact nk_of hb)
  obtain ⟨s, t⟩ := a
  obtain ⟨s', t'⟩ := b
  simp at this
  rw [this.1, this.2]
theorem nk_lit (n : Nm) : WideAt.IsKeyLit (nk n) := trivial
theorem nk_same {a b : Nm} (ha : a.wf) (hb : b.wf) : (nk a).sameKey (nk b) = decide (a = b) := by
  by_cases h : a = b
  · subst h; rw [WideAt.sameKey_self (nk_lit _), decide_eq_true rfl]
  · rw [decide_eq_false h]
    cases hs : (nk a).sameKey (nk b) with
    | false => rfl
    | true => exact absurd (nk_inj ha hb (WideAt.sameKey_eq hs)) h
end Go.Proofs.YtnpnpkaklamboaaDoor
