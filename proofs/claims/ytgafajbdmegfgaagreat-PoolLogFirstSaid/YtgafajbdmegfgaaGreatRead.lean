/- What a slice that came in holds, cell by cell, for the walks. No program in sight. -/
import Derived.Test.YtgafajbdmegfgaaGreatBk
import Derived.ProofKit
import Derived.OpenShut
import Derived.Deep.Slices
import Derived.Deep.Fields
import Derived.ChangeSame
import Derived.ChangeOld
import Derived.SizedLaws
set_option linter.unusedVariables false
set_option linter.unusedSimpArgs false
namespace Go.Proofs.YtgafajbdmegfgaaGreat
open Go.RowKit Go.ChangeShapes Go.WideShapes Go.ChangeAt Go.Deep

/-- A slice: where, how long, what its elements' cells hold. -/
structure Slq where
  a : Option Addr
  len : Nat
  cap : Nat
  f : Nat → Nat → Value

/-- The slice value v, its elements of 'size' cells, holds these. -/
structure IsSl (w : World) (v : Value) (size : Nat) (q : Slq) : Prop where
  val : v = .slice q.a q.len q.cap
  le : q.len ≤ q.cap
  max : q.cap ≤ maxLen
  at_ : 0 < q.len → ∃ b off, q.a = some ⟨b, off, none⟩ ∧ b < w.heap.size ∧ ∀ i j, i < q.len → j < size → w.cell? ⟨b, off + (i * size + j), none⟩ = some (q.f i j)

theorem addr_block (a : Addr) (n : Nat) : (a.add n).block = a.block := by unfold Addr.add; split <;> rfl
theorem IsSl.kept {w w' : World} {v : Value} {size : Nat} {q : Slq} {B : Nat} (h : IsSl w v size q) (hb : Below B w w') (hB : w.heap.size ≤ B) : IsSl w' v size q :=
  ⟨h.val, h.le, h.max, fun hl => by
    obtain ⟨b, off, e, hx, hc⟩ := h.at_ hl
    refine ⟨b, off, e, Nat.lt_of_lt_of_le hx hb.size, fun i j hi hj => ?_⟩
    rw [hb.cell (p := ⟨b, off + (i * size + j), none⟩) (by show b < B; omega)]
    exact hc i j hi hj⟩
theorem mk_at {w : World} {x : Addr} {size len : Nat} {f : Nat → Nat → Value} (hl : 0 < len) (hs : 0 < size) (h : ∀ i j, i < len → j < size → w.cell? (x.add (i * size + j)) = some (f i j)) :
    ∃ b off, some x = some (⟨b, off, none⟩ : Addr) ∧ b < w.heap.size ∧ ∀ i j, i < len → j < size → w.cell? ⟨b, off + (i * size + j), none⟩ = some (f i j) := by
  obtain ⟨b, off, spot⟩ := x
  have h0 := h 0 0 hl hs
  have hspot : spot = none := by simpa [Addr.add] using World.cell?_spot h0
  subst hspot
  refine ⟨b, off, rfl, ?_, fun i j hi hj => ?_⟩
  · rcases Nat.lt_or_ge b w.heap.size with g | g
    · exact g
    · exfalso
      simp only [Nat.zero_mul, Nat.add_zero] at h0
      unfold Addr.add World.cell? at h0
      simp only [if_true] at h0
      rw [Array.getElem?_eq_none g] at h0
      cases h0
  · rw [← Go.WideShapes.add_plain]; exact h i j hi hj

/-- How many places a slice's datum holds, spare ones too. -/
def SzOf {H : Type} (d : DataW H) (n : Nat) : Prop := n = 0 ∨ ∃ e s, d = .slice e s ∧ n = e.length + s.length
theorem SzOf.reach {H : Type} {P : Program} {ts : List TypeId} {ds : List (DataW H)} {d : DataW H} {n : Nat} (hz : SzOf d n) (h : (DataW.weightsEach P ts ds).all (· ≤ reachBytes) = true) {j : Nat} {t e : TypeId}
    (ht : ts[j]? = some t) (hd : ds[j]? = some d) (hu : P.underlying t = some (.slice e)) : n * P.bytesOf e ≤ 140737488351232 := by
  rcases hz with rfl | ⟨es, sp, rfl, rfl⟩
  · simp
  · exact sized_slice h ht hd hu

section
variable {H : Type} {enc : TypeId × Value → H} {P : Program} {w : World} {base : Nat} {spare : Nat → Bool} {held : Bool} {r : Reach} {b0 : Nat} {d : DataW H} {p : List MemPlace} {v : Value}

/-- A slice of structs of one-cell fields. -/
theorem read_structs {t e : TypeId} {fs : Array Field} (ht : P.underlying t = some (.slice e)) (he : P.underlying e = some (.struct fs))
    (hone : oneCellFields P fs = true) (hC : P.cellsOf e = fs.size) (hf : fs.size ≠ 0) (hv : Value.okWide P w r b0 t v) (h : DataW.Trod enc P w base (fun _ => true) held t v d p) :
    ∃ q : Slq, IsSl w v fs.size q ∧ SzOf d q.cap ∧ ∀ i, i < q.len → ∀ j f, fs[j]? = some f → ∃ n y, DataW.trod enc P w base (fun _ => true) held n f.type [q.f i j] = some y := by
  obtain ⟨a, len, cap, rfl⟩ := okWide_slice ht hv
  obtain ⟨fuel, h⟩ := h
  rcases open_slice ht h with ⟨hcs, _⟩ | ⟨x, len', cap', m, n, D, Pl, hcs, hb, hl, hm, hmm, hx, hi⟩
  · simp [Value.cells] at hcs
    obtain ⟨rfl, rfl, rfl⟩ := hcs
    exact ⟨⟨none, 0, 0, fun _ _ => .nilIface⟩, ⟨rfl, Nat.le_refl _, Nat.zero_le _, fun h => absurd h (Nat.lt_irrefl 0)⟩, .inl rfl, fun i hi => absurd hi (Nat.not_lt_zero i)⟩
  · simp [Value.cells] at hcs
    obtain ⟨rfl, rfl, rfl⟩ := hcs
    simp only [if_true] at hmm
    obtain rfl : cap = m := by omega
    have hall : ∀ i, i < len → ∃ cs', w.cells? base (x.add (i * fs.size)) fs.size = some cs' ∧ DataW.trod enc P w base (fun _ => true) held n e cs' = some (D i, Pl i) := by
      intro i hil
      have := hi i (by omega)
      rw [hC] at this
      exact this
    have hcell : ∀ i j, i < len → j < fs.size → ∃ u, w.cell? (x.add (i * fs.size + j)) = some u ∧ ∀ f, fs[j]? = some f → ∃ n y, DataW.trod enc P w base (fun _ => true) held n f.type [u] = some y := by
      intro i j hil hj
      obtain ⟨cs', hc, ht'⟩ := hall i hil
      obtain ⟨ys, n', _, hy, hlen, hyl, hf'⟩ := DataW.trod_struct he ht'
      obtain ⟨_, hcl, hat⟩ := World.cells?_some hc
      have hv : cs'[j]? = some (cs'[j]'(by omega)) := List.getElem?_eq_getElem (by omega)
      refine ⟨cs'[j]'(by omega), ?_, fun f hfj => ?_⟩
      · rw [← add_add, hat j hj, hv]
      · obtain ⟨ho, hk⟩ := hone_of hone j f hfj
        have h1 := hf' j f hfj
        rw [ho, hk] at h1
        have hone' : (cs'.drop j).take 1 = [cs'[j]'(by omega)] := by
          rw [List.drop_eq_getElem_cons (by omega)]
          rfl
        rw [hone'] at h1
        have hys : ys[j]? = some (ys[j]'(by omega)) := List.getElem?_eq_getElem (by omega)
        exact ⟨_, _, h1.trans hys⟩
    refine ⟨⟨some x, len, cap, fun i j => (w.cell? (x.add (i * fs.size + j))).getD .nilIface⟩, ⟨rfl, hl, hm, fun hlen => mk_at hlen (by omega) (fun i j hi' hj => ?_)⟩, (.inr ⟨_, _, (Prod.mk.inj hx).1, by simp; omega⟩), fun i hi' j f hfj => ?_⟩
    · obtain ⟨u, hu, _⟩ := hcell i j hi' hj
      simp [hu]
    · have hj : j < fs.size := (Array.getElem?_eq_some_iff.1 hfj).1
      obtain ⟨u, hu, hg⟩ := hcell i j hi' hj
      simp only [hu, Option.getD]
      exact hg f hfj

/-- A slice of one-cell elements. -/
theorem read_cells {t e : TypeId} (ht : P.underlying t = some (.slice e)) (hC : P.cellsOf e = 1) (hv : Value.okWide P w r b0 t v) (h : DataW.Trod enc P w base (fun _ => true) held t v d p) :
    ∃ q : Slq, IsSl w v 1 q ∧ SzOf d q.cap ∧ ∀ i, i < q.len → ∃ n y, DataW.trod enc P w base (fun _ => true) held n e [q.f i 0] = some y := by
  obtain ⟨a, len, cap, rfl⟩ := okWide_slice ht hv
  obtain ⟨fuel, h⟩ := h
  rcases open_slice1 ht hC h with ⟨hcs, _⟩ | ⟨x, len', cap', m, n, V, D, Pl, hcs, hb, hl, hm, hmm, hx, hi⟩
  · simp [Value.cells] at hcs
    obtain ⟨rfl, rfl, rfl⟩ := hcs
    exact ⟨⟨none, 0, 0, fun _ _ => .nilIface⟩, ⟨rfl, Nat.le_refl _, Nat.zero_le _, fun h => absurd h (Nat.lt_irrefl 0)⟩, .inl rfl, fun i hi => absurd hi (Nat.not_lt_zero i)⟩
  · simp [Value.cells] at hcs
    obtain ⟨rfl, rfl, rfl⟩ := hcs
    simp only [if_true] at hmm
    obtain rfl : cap = m := by omega
    refine ⟨⟨some x, len, cap, fun i _ => V i⟩, ⟨rfl, hl, hm, fun hlen => mk_at hlen (by omega) (fun i j hi' hj => ?_)⟩, (.inr ⟨_, _, (Prod.mk.inj hx).1, by simp; omega⟩), fun i hi' => ⟨n, _, (hi i (Nat.lt_of_lt_of_le hi' hl)).2⟩⟩
    obtain rfl : j = 0 := by omega
    simp only [Nat.mul_one, Nat.add_zero]
    exact (hi i (Nat.lt_of_lt_of_le hi' hl)).1
end
end Go.Proofs.YtgafajbdmegfgaaGreat
