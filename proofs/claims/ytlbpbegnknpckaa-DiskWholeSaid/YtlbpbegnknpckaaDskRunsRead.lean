/- What came in for DiskRuns. -/
import Derived.Test.YtlbpbegnknpckaaDskRef4
import Derived.Test.YtlbpbegnknpckaaDskLastRead
set_option linter.unusedVariables false
set_option linter.unusedSimpArgs false
namespace Go.Proofs.Ytlbpbegnknpckaa
open Go.RowKit Go.ChangeShapes Go.WideShapes Go.ChangeAt Go.Deep

/-- A call. -/
structure Cl where
  kind : Int
  sector : Int
  data : ByteArray
  kv : Value
  kl : Nat
  kb : Nat → Bool
structure IsCl (w : World) (f : Nat → Value) (c : Cl) : Prop where
  c0 : f 0 = .int .i64 c.kind
  c1 : f 1 = .int .i64 c.sector
  c2 : f 2 = .string c.data
  c3 : f 3 = c.kv
  k0 : -9223372036854775808 ≤ c.kind
  k1 : c.kind ≤ 9223372036854775807
  s0 : -9223372036854775808 ≤ c.sector
  s1 : c.sector ≤ 9223372036854775807
  dz : c.data.size ≤ maxLen
  kp : Kp w w.heap.size c.kv c.kl c.kb
def IsCalls (w : World) (v : Value) (q : Slq) : Prop := IsSl w v 4 q ∧ ∃ c : Nat → Cl, ∀ i, i < q.len → IsCl w (q.f i) (c i)
theorem read_calls {H : Type} {enc : TypeId × Value → H} {w : World} {base : Nat} {held : Bool} {r : Reach} {b0 : Nat} {d : DataW H} {p : List MemPlace} {v : Value}
    (hv : Value.okWide Try.prog w r b0 22 v) (h : DataW.Trod enc Try.prog w base (fun _ => true) held 22 v d p) : ∃ q, IsCalls w v q ∧ SzOf d q.cap := by
  obtain ⟨q, hq, hz, hf⟩ := read_structs Try.underlying22 Try.underlying33 (by kernel_rfl) (by kernel_rfl) (by decide) hv h
  have hk : ∀ i, ∃ c : Cl, i < q.len → IsCl w (q.f i) c := by
    intro i
    by_cases hi : i < q.len
    · obtain ⟨n0, y0, h0⟩ := hf i hi 0 _ rfl
      obtain ⟨n1, y1, h1⟩ := hf i hi 1 _ rfl
      obtain ⟨n2, y2, h2⟩ := hf i hi 2 _ rfl
      obtain ⟨n3, y3, h3⟩ := hf i hi 3 _ rfl
      obtain ⟨k, hk, _, z0⟩ := DataW.trod_int Try.underlying3 h0
      obtain ⟨s, hs, _, z1⟩ := DataW.trod_int Try.underlying3 h1
      obtain ⟨dt, hd, _, z2⟩ := DataW.trod_string Try.underlying9 h2
      obtain ⟨qb, hqb, _, hqbf⟩ := read_cells_in (c := q.f i 3) Try.underlying31 (by kernel_rfl) h3
      have hb : ∀ j, ∃ b : Bool, j < qb.len → qb.f j 0 = .bool b := by
        intro j
        by_cases hj : j < qb.len
        · obtain ⟨n, y, h0⟩ := hqbf j hj
          obtain ⟨b, hb, _⟩ := DataW.trod_bool Try.underlying4 h0
          exact ⟨b, fun _ => by simpa using hb⟩
        · exact ⟨false, fun h => absurd h hj⟩
      have b0 : -9223372036854775808 ≤ k ∧ k ≤ 9223372036854775807 := by simpa [Lit.wf, IntKind.min, IntKind.max, IntKind.signed, IntKind.bits] using z0
      have b1 : -9223372036854775808 ≤ s ∧ s ≤ 9223372036854775807 := by simpa [Lit.wf, IntKind.min, IntKind.max, IntKind.signed, IntKind.bits] using z1
      exact ⟨⟨k, s, dt, q.f i 3, qb.len, fun j => (hb j).choose⟩, fun _ => ⟨by simpa using hk, by simpa using hs, by simpa using hd, rfl, b0.1, b0.2, b1.1, b1.2, z2, Kp.of (Sq.of hqb fun j hj => (hb j).choose_spec hj)⟩⟩
    · exact ⟨⟨0, 0, ⟨#[]⟩, .nilIface, 0, fun _ => false⟩, fun h => absurd h hi⟩
  exact ⟨q, ⟨hq, fun i => (hk i).choose, fun i => (hk i).choose_spec⟩, hz⟩

/-- Both devices, side by side: the reference's lies apart. -/
structure Two (w0 w : World) (B : Nat) (I : Ids) (J : Rds) (S : Dsk) : Prop where
  d : Dk w B I S
  r : Rk w B J S
  bel : Below w0.heap.size w0 w
  hB : w0.heap.size ≤ B
  apart : I.f ≠ J.f ∧ I.n ≠ J.f
  now : S.now = apply S.firm S.pend
theorem Two.i_not_j {w0 w : World} {B : Nat} {I : Ids} {J : Rds} {S : Dsk} (h : Two w0 w B I J S) : ∀ k, I.foot k → ¬ J.foot k := by
  intro k hi hj
  rcases hj with rfl | rfl | hj
  · rcases hi with e | e | e | e
    · exact h.r.box.ne_ h.d.box (by decide) e
    · exact h.d.firm.ne_bk h.r.box (by decide) e.symm
    · exact h.d.now.ne_bk h.r.box (by decide) e.symm
    · obtain ⟨_, _, cur, hc⟩ := owns_block h.d.pend e
      exact hc.ne_ h.r.box (by decide) rfl
  · rcases hi with e | e | e | e
    · exact h.r.firm.ne_bk h.d.box (by decide) e
    · exact h.apart.1 e.symm
    · exact h.apart.2 e.symm
    · obtain ⟨_, _, cur, hc⟩ := owns_block h.d.pend e
      exact h.r.firm.ne_bk hc (by decide) rfl
  · obtain ⟨_, _, cur, hc⟩ := owns_block h.r.pend hj
    rcases hi with e | e | e | e
    · exact hc.ne_ h.d.box (by decide) e
    · exact h.d.firm.ne_bk hc (by decide) e.symm
    · exact h.d.now.ne_bk hc (by decide) e.symm
    · obtain ⟨_, _, cur2, hc2⟩ := owns_block h.d.pend e
      exact hc.ne_ hc2 (by decide) rfl
theorem now_write (S : Dsk) (h : S.now = apply S.firm S.pend) (i : Int) (d : ByteArray) : (S.write i d).1.now = apply (S.write i d).1.firm (S.write i d).1.pend := by
  unfold Dsk.write
  split
  · exact h
  · split
    · split
      · exact h
      · show S.now.set _ d = apply S.firm (S.pend ++ [(_, d)])
        unfold apply
        rw [List.foldl_append, h]
        rfl
    · exact h
theorem now_barrier (S : Dsk) (h : S.now = apply S.firm S.pend) : S.barrier.1.now = apply S.barrier.1.firm S.barrier.1.pend := by
  unfold Dsk.barrier
  split
  · exact h
  · split
    · exact h
    · exact h
end Go.Proofs.Ytlbpbegnknpckaa
