/- What came in for DiskLast. -/
import Derived.Test.YtlbpbegnknpckaaDskLaws3
set_option linter.unusedVariables false
set_option linter.unusedSimpArgs false
namespace Go.Proofs.Ytlbpbegnknpckaa
open Go.RowKit Go.ChangeShapes Go.WideShapes Go.ChangeAt Go.Deep

section
variable {H : Type} {enc : TypeId × Value → H} {P : Program} {w : World} {base : Nat} {held : Bool}
/-- A slice of one-cell elements, that stands in one cell of another. -/
theorem read_cells_in {t e : TypeId} {n : Nat} {c : Value} {x : DataW H × List MemPlace} (ht : P.underlying t = some (.slice e)) (hC : P.cellsOf e = 1) (h : DataW.trod enc P w base (fun _ => true) held n t [c] = some x) :
    ∃ q : Slq, IsSl w c 1 q ∧ SzOf x.1 q.cap ∧ ∀ i, i < q.len → ∃ n y, DataW.trod enc P w base (fun _ => true) held n e [q.f i 0] = some y := by
  rcases open_slice1 ht hC h with ⟨hcs, hx⟩ | ⟨a, len, cap, m, n, V, D, Pl, hcs, hb, hl, hm, hmm, hx, hi⟩
  · injection hcs with hcs _
    subst hcs
    exact ⟨⟨none, 0, 0, fun _ _ => .nilIface⟩, ⟨rfl, Nat.le_refl _, Nat.zero_le _, fun h => absurd h (Nat.lt_irrefl 0)⟩, .inl rfl, fun i hi => absurd hi (Nat.not_lt_zero i)⟩
  · injection hcs with hcs _
    subst hcs
    simp only [if_true] at hmm
    obtain rfl : cap = m := by omega
    refine ⟨⟨some a, len, cap, fun i _ => V i⟩, ⟨rfl, hl, hm, fun hlen => mk_at hlen (by omega) (fun i j hi' hj => ?_)⟩, (.inr ⟨_, _, by rw [hx], by simp; omega⟩), fun i hi' => ⟨n, _, (hi i (Nat.lt_of_lt_of_le hi' hl)).2⟩⟩
    obtain rfl : j = 0 := by omega
    simp only [Nat.mul_one, Nat.add_zero]
    exact (hi i (Nat.lt_of_lt_of_le hi' hl)).1
end

/-- Writes elsewhere, a sector, what it holds, where barriers stand. -/
structure Lst where
  wv : Value
  sector : Int
  mine : ByteArray
  bv : Value
  wq : Slq
  bq : Slq
def lstv (x : Lst) : Value := .agg #[x.wv, .int .i64 x.sector, .string x.mine, x.bv]
structure IsLast (w : World) (v : Value) (x : Lst) : Prop where
  val : v = lstv x
  tx : IsTx w x.wv x.wq
  bs : IsBs w x.bv x.bq
  lo : -9223372036854775808 ≤ x.sector
  hi : x.sector ≤ 9223372036854775807
  mine : x.mine.size ≤ maxLen

theorem read_last {H : Type} {enc : TypeId × Value → H} {w : World} {base : Nat} {held : Bool} {r : Reach} {b0 : Nat} {d : DataW H} {p : List MemPlace} {v : Value}
    (hv : Value.okWide Try.prog w r b0 55 v) (h : DataW.Trod enc Try.prog w base (fun _ => true) held 55 v d p) :
    ∃ x : Lst, IsLast w v x ∧ ∀ (ts : List TypeId) (ds : List (DataW H)), (DataW.weightsEach Try.prog ts ds).all (· ≤ reachBytes) = true → ∀ j : Nat, ts[j]? = some 55 → ds[j]? = some d → x.wq.cap * 16 ≤ 140737488351232 := by
  obtain ⟨cs, rfl, hsz⟩ := okWide_struct Try.underlying55 hv
  obtain ⟨l⟩ := cs
  have h4 : Try.prog.cellsOf 55 = 4 := by kernel_rfl
  rw [h4] at hsz
  have cS : Try.prog.cellsOf 9 = 1 := by kernel_rfl
  have cI : Try.prog.cellsOf 3 = 1 := by kernel_rfl
  have cW : Try.prog.cellsOf 39 = 1 := by kernel_rfl
  have cB : Try.prog.cellsOf 31 = 1 := by kernel_rfl
  match l, hsz with
  | [c0, c1, c2, c3], _ =>
    obtain ⟨fuel, hf⟩ := h
    obtain ⟨xs, n, _, hxd, hpl, hlen, hg⟩ := DataW.trod_struct Try.underlying55 hf
    have hx : ∀ i, i < xs.length → ∃ y, xs[i]? = some y := fun i hi => ⟨_, List.getElem?_eq_getElem hi⟩
    have hl4 : xs.length = 4 := hlen
    have g0 : DataW.trod enc Try.prog w base (fun _ => true) held n 39 ([c0, c1, c2, c3].drop 0 |>.take (Try.prog.cellsOf 39)) = xs[0]? := hg 0 _ rfl
    have g1 : DataW.trod enc Try.prog w base (fun _ => true) held n 3 ([c0, c1, c2, c3].drop 1 |>.take (Try.prog.cellsOf 3)) = xs[1]? := hg 1 _ rfl
    have g2 : DataW.trod enc Try.prog w base (fun _ => true) held n 9 ([c0, c1, c2, c3].drop 2 |>.take (Try.prog.cellsOf 9)) = xs[2]? := hg 2 _ rfl
    have g3 : DataW.trod enc Try.prog w base (fun _ => true) held n 31 ([c0, c1, c2, c3].drop 3 |>.take (Try.prog.cellsOf 31)) = xs[3]? := hg 3 _ rfl
    rw [cW] at g0
    rw [cI] at g1
    rw [cS] at g2
    rw [cB] at g3
    obtain ⟨y0, e0⟩ := hx 0 (by omega)
    obtain ⟨y1, e1⟩ := hx 1 (by omega)
    obtain ⟨y2, e2⟩ := hx 2 (by omega)
    obtain ⟨y3, e3⟩ := hx 3 (by omega)
    obtain ⟨q, hq, hz, hqf⟩ := read_cells_in (c := c0) Try.underlying39 (by kernel_rfl) (g0.trans e0)
    obtain ⟨qb, hqb, _, hqbf⟩ := read_cells_in (c := c3) Try.underlying31 (by kernel_rfl) (g3.trans e3)
    obtain ⟨n1, hn1, _, z1⟩ := DataW.trod_int Try.underlying3 (g1.trans e1)
    obtain ⟨s2, hs2, _, z2⟩ := DataW.trod_string Try.underlying9 (g2.trans e2)
    simp at hn1 hs2
    subst hn1 hs2
    have b1 : -9223372036854775808 ≤ n1 ∧ n1 ≤ 9223372036854775807 := by simpa [Lit.wf, IntKind.min, IntKind.max, IntKind.signed, IntKind.bits] using z1
    have hk : ∀ i, ∃ s : ByteArray, i < q.len → q.f i 0 = .string s ∧ s.size ≤ maxLen := by
      intro i
      by_cases hi : i < q.len
      · obtain ⟨n, y, h0⟩ := hqf i hi
        obtain ⟨s, hs, _, hw⟩ := DataW.trod_string Try.underlying9 h0
        exact ⟨s, fun _ => ⟨by simpa using hs, hw⟩⟩
      · exact ⟨⟨#[]⟩, fun h => absurd h hi⟩
    have hb : ∀ i, ∃ s : Bool, i < qb.len → qb.f i 0 = .bool s := by
      intro i
      by_cases hi : i < qb.len
      · obtain ⟨n, y, h0⟩ := hqbf i hi
        obtain ⟨s, hs, _⟩ := DataW.trod_bool Try.underlying4 h0
        exact ⟨s, fun _ => by simpa using hs⟩
      · exact ⟨false, fun h => absurd h hi⟩
    refine ⟨⟨c0, n1, s2, c3, q, qb⟩, ⟨rfl, ⟨hq, fun i => (hk i).choose, fun i => (hk i).choose_spec⟩, ⟨hqb, fun i => (hb i).choose, fun i => (hb i).choose_spec⟩, b1.1, b1.2, z2⟩, ?_⟩
    intro ts ds hall j htj hdj
    injection hxd with hxd _
    have hin : ∀ fs : Array Field, Try.prog.underlying 55 = some (.struct fs) → (DataW.weightsEach Try.prog (fs.toList.map (·.type)) (xs.map (·.1))).all (· ≤ reachBytes) = true := by
      intro fs hfs
      rw [List.all_eq_true]
      intro k hk
      refine List.all_eq_true.1 hall k (DataW.weights_mem_each htj hdj k ?_)
      rw [hxd]
      unfold DataW.weights
      rw [hfs]
      exact hk
    have hbs : Try.prog.bytesOf 9 = 16 := by kernel_rfl
    have := hz.reach (hin _ Try.underlying55) (j := 0) (t := 39) (e := 9) rfl (by rw [List.getElem?_map, e0]; rfl) Try.underlying39
    rw [hbs] at this
    exact this
end Go.Proofs.Ytlbpbegnknpckaa
