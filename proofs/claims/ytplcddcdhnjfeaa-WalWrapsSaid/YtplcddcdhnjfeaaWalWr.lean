/- The walk of WalWraps. -/
import Derived.Test.YtplcddcdhnjfeaaWalRound
set_option linter.unusedVariables false
set_option linter.unusedSimpArgs false
namespace Go.Proofs.Ytplcddcdhnjfeaa
open Go.RowKit

/-- A slice of bools. -/
def IsBs (w : World) (v : Value) (q : Slq) : Prop := IsSl w v 1 q ∧ ∃ kb : Nat → Bool, ∀ i, i < q.len → q.f i 0 = .bool (kb i)
set_option maxRecDepth 100000 in
theorem read_bools {H : Type} {enc : TypeId × Value → H} {w : World} {base : Nat} {held : Bool} {r : Reach} {b0 : Nat} {d : DataW H} {p : List MemPlace} {v : Value}
    (hv : Value.okWide Try.prog w r b0 24 v) (h : DataW.Trod enc Try.prog w base (fun _ => true) held 24 v d p) : ∃ q, IsBs w v q ∧ SzOf d q.cap := by
  obtain ⟨q, hq, hz, hf⟩ := read_cells Try.underlying24 (by kernel_rfl) hv h
  have hk : ∀ i, ∃ s : Bool, i < q.len → q.f i 0 = .bool s := by
    intro i
    by_cases hi : i < q.len
    · obtain ⟨n, y, h0⟩ := hf i hi
      obtain ⟨s, hs, _⟩ := DataW.trod_bool Try.underlying4 h0
      exact ⟨s, fun _ => by simpa using hs⟩
    · exact ⟨false, fun h => absurd h hi⟩
  exact ⟨q, ⟨hq, fun i => (hk i).choose, fun i => (hk i).choose_spec⟩, hz⟩
theorem Sq.mono {w : World} {B B' : Nat} {v : Value} {m : Nat} {f : Nat → Value} (h : Sq w B v m f) (hB : B ≤ B') : Sq w B' v m f := by
  obtain ⟨a, c, e, h⟩ := h
  refine ⟨a, c, e, fun hm => ?_⟩
  obtain ⟨b, off, e1, hlt, hc⟩ := h hm
  exact ⟨b, off, e1, by omega, hc⟩

set_option maxRecDepth 100000 in
set_option maxHeartbeats 4000000 in
theorem walk_WalWraps (v : Value) (q : Slq) (n : Int) (u : Value) (p : Slq) (w : World) (hq : IsTx w v q) (hn1 : -9223372036854775808 ≤ n) (hn2 : n ≤ 9223372036854775807) (hp : IsBs w u p) :
    Calls Try.prog 7 #[v, .int .i64 n, u] w fun e w' => e = .returned (.bool true) ∧ Below w.heap.size w w' := by
  have CA := Lib.hid (awake_any w)
  obtain ⟨hs, s, hs2⟩ := hq
  obtain ⟨ks, kb, ks2⟩ := hp
  have hm : q.len ≤ maxLen := by have a := hs.le; have b := hs.max; omega
  have hm2 : q.len ≤ 9223372036854775807 := by unfold maxLen at hm; omega
  have Q0 := Lib.hid (Sq.of hs (f := fun i => .string (s i)) (fun i hi => (hs2 i hi).1))
  have K0 := Lib.hid (show Kb w w.heap.size u p.len kb from Sq.of ks (f := fun i => .bool (kb i)) ks2)
  have SZ := Lib.hid (fun i hi => (hs2 i hi).2)
  have HM := Lib.hid hm
  clear hs hs2 ks ks2 hm
  generalize q.len = m at *
  generalize p.len = pm at *
  obtain ⟨sa, sc, rfl, -⟩ := Q0.out
  obtain ⟨ka, kc, rfl, -⟩ := K0.out
  go_enter Try.func7, Try.ntmps7
  go_wp2_with fail
  refine CA.out.mono ?_
  rintro e w1 ⟨rfl, hb⟩
  have B1 := Lib.hid hb
  have CR := Lib.hid (fun (h : n ≤ 60) => round_any sa sc m s (max n 0).toNat (.slice ka pm kc) pm kb w1 ((Q0.out.kept hb (Nat.le_refl _)).mono hb.size) HM.out SZ.out (by omega) ((K0.out.kept hb (Nat.le_refl _)).mono hb.size))
  have eM : (((max n 0).toNat : Nat) : Int) = max n 0 := by omega
  rw [eM] at CR
  clear hb CA Q0 K0 SZ eM
  as_aux_lemma =>
    by_cases h0 : m = 0
    · have h0' : ((m : Int) == 0) = true := by simp; omega
      clear h0
      go_wp2_with fail
      go_ret
      exact ⟨rfl, B1.out⟩
    have h0' : ((m : Int) == 0) = false := by simp; omega
    by_cases h1 : 20 < m
    · have h1' : decide ((20 : Int) < (m : Int)) = true := by simp; omega
      have h1b : (20 : Int) < (m : Int) := by omega
      go_wp2_with fail
      go_ret
      exact ⟨rfl, B1.out⟩
    have h1b : ¬ (20 : Int) < (m : Int) := by omega
    by_cases h2 : 60 < n
    · go_wp2_with fail
      go_ret
      exact ⟨rfl, B1.out⟩
    have C2 := Lib.hid (CR.out (by omega))
    clear CR
    go_wp2_with fail
    refine C2.out.mono ?_
    rintro e w2 ⟨rfl, hb⟩
    have B2 := Lib.hid (below_then B1.out hb B1.out.size)
    clear hb C2 B1
    go_wp2_with fail
    go_ret
    exact ⟨rfl, B2.out⟩
end Go.Proofs.Ytplcddcdhnjfeaa
