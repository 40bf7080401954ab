/- The walks of math/bits.Mul, slices.Clone at []uint64, slices.Repeat and slices.Max at []int. -/
import Derived.Test.YtehifnkpmhbimaaWtRead
import Derived.WalkSpells
import Derived.WalkLawsBesides
import Derived.Lib.Mul64
import Derived.Laws.CopyRow
import Derived.Lib.SliceRun
import Derived.Lib.Walk
import Derived.BigRegion
import Derived.OwnWalk
import Derived.Laws.MakeOwn
set_option linter.unusedVariables false
set_option linter.unusedSimpArgs false
namespace Go.Proofs.Ytehifnkpmhbimaa
open Go.RowKit

namespace M64
theorem maskN (a : Nat) (ha : a < 18446744073709551616) : bits .and .u64 (a : Int) 4294967295 = ((a % 4294967296 : Nat) : Int) := by
  have h := bits_and_u64_nat a 4294967295 ha (by omega)
  have e : a &&& 4294967295 = a % 4294967296 := Nat.and_two_pow_sub_one_eq_mod a 32
  rw [e] at h
  exact h
theorem divN (a : Nat) : (a : Int) / 4294967296 = ((a / 4294967296 : Nat) : Int) := by omega
theorem mulN (a b : Nat) : (a : Int) * (b : Int) = ((a * b : Nat) : Int) := (Int.natCast_mul a b).symm
theorem addN (a b : Nat) : (a : Int) + (b : Int) = ((a + b : Nat) : Int) := (Int.natCast_add a b).symm
theorem wrapN (a : Nat) (ha : a < 18446744073709551616) : IntKind.u64.wrap (a : Int) = (a : Int) := by rw [IntKind.wrap_u64]; omega
theorem wrapM (a : Nat) : IntKind.u64.wrap (a : Int) = ((a % 18446744073709551616 : Nat) : Int) := by rw [IntKind.wrap_u64]; omega
end M64

set_option maxHeartbeats 1000000 in
theorem mul64_any (x y : Nat) (hx : x < 18446744073709551616) (hy : y < 18446744073709551616) (w : World) :
    Calls Try.prog 30 #[.int .u64 x, .int .u64 y] w fun e w' => e = .returned (.tuple #[.int .u64 ((x * y / 18446744073709551616 : Nat) : Int), .int .u64 ((x * y % 18446744073709551616 : Nat) : Int)]) ∧ w' = w := by
  obtain ⟨bd, bt, bw, hhi⟩ := Lib.mul64_hi x y hx hy
  have ba := Lib.half_mul_le (a := x / 4294967296) (b := y / 4294967296) (by omega) (by omega)
  have bb := Lib.half_mul_le (a := x / 4294967296) (b := y % 4294967296) (by omega) (by omega)
  have bc := Lib.half_mul_le (a := x % 4294967296) (b := y / 4294967296) (by omega) (by omega)
  have ba' : x / 4294967296 * (y / 4294967296) < 18446744073709551616 := by omega
  have bb' : x / 4294967296 * (y % 4294967296) < 18446744073709551616 := by omega
  have bc' : x % 4294967296 * (y / 4294967296) < 18446744073709551616 := by omega
  have bh1 : x / 4294967296 * (y / 4294967296) + (x / 4294967296 * (y % 4294967296) + x % 4294967296 * (y % 4294967296) / 4294967296) / 4294967296 < 18446744073709551616 := by omega
  have bh : x / 4294967296 * (y / 4294967296) + (x / 4294967296 * (y % 4294967296) + x % 4294967296 * (y % 4294967296) / 4294967296) / 4294967296 + ((x / 4294967296 * (y % 4294967296) + x % 4294967296 * (y % 4294967296) / 4294967296) % 4294967296 + x % 4294967296 * (y / 4294967296)) / 4294967296 < 18446744073709551616 := by omega
  go_enter Try.func30, Try.ntmps30
  go_wp2
  simp only [M64.maskN x hx, M64.maskN y hy, M64.divN, M64.mulN, M64.addN, M64.wrapN _ bd, M64.wrapN _ bb', M64.wrapN _ bt, M64.maskN _ bt, M64.wrapN _ bc', M64.wrapN _ bw, M64.wrapN _ ba', M64.wrapN _ bh1, M64.wrapN _ bh, M64.wrapM (x * y)]
  rw [hhi]
  go_ret2
  exact ⟨rfl, rfl⟩

theorem mul_any (x y : Nat) (hx : x < 18446744073709551616) (hy : y < 18446744073709551616) (w : World) :
    Calls Try.prog 28 #[.int .u64 x, .int .u64 y] w fun e w' => e = .returned (.tuple #[.int .u64 ((x * y / 18446744073709551616 : Nat) : Int), .int .u64 ((x * y % 18446744073709551616 : Nat) : Int)]) ∧ w' = w := by
  go_enter Try.func28, Try.ntmps28
  go_wp2_with fail
  refine (mul64_any x y hx hy _).mono ?_
  rintro e w1 ⟨rfl, rfl⟩
  go_wp2
  go_ret2
  exact ⟨rfl, rfl⟩


theorem Try.info41 : (Try.prog.info? 41).map (fun i => (i.zero, i.size, i.bytes)) = some (some (.int .u64 0), 1, 8) := by kernel_rfl
theorem Try.info3 : (Try.prog.info? 3).map (fun i => (i.zero, i.size, i.bytes)) = some (some (.int .i64 0), 1, 8) := by kernel_rfl
theorem bits_none (w : World) (a : Option Addr) (n c n' c' : Nat) : (binOp .eql 24 (.slice a n c) (.slice none n' c')).run Try.prog w = .ok (.bool a.isNone) w :=
  Lib.run_eql_slice_nil w _ _ a n c n' c' Try.underlying24

/-- A row of the call's own, to be changed. -/
def MR (w : World) (B : Nat) (k : IntKind) (v : Value) (n : Nat) (f : Nat → Int) : Prop :=
  (∃ a c, v = .slice a 0 c ∧ (a = none → c = 0) ∧ n = 0) ∨ (∃ g cap cur ty, v = .slice (some ⟨g, 0, none⟩) n cap ∧ B ≤ g ∧ Bk w g ty cur ∧ ∀ i, i < n → cur[i]? = some (.int k (f i)))
theorem MR.row {w : World} {B : Nat} {k : IntKind} {v : Value} {n : Nat} {f : Nat → Int} (h : MR w B k v n f) : Row w w.heap.size k v n f := by
  rcases h with ⟨a, c, rfl, h0, rfl⟩ | ⟨g, cap, cur, ty, rfl, hg, hk, hc⟩
  · exact ⟨a, c, rfl, fun e => ⟨rfl, h0 e⟩, fun h => absurd h (Nat.lt_irrefl 0)⟩
  · exact ⟨_, cap, rfl, (fun e => by cases e), fun _ => ⟨g, 0, rfl, hk.lt, fun i hi => by rw [Nat.zero_add, hk.cell]; exact hc i hi⟩⟩
theorem MR.own {w : World} {B : Nat} {k : IntKind} {t : TypeId} {v : Value} {n : Nat} {f : Nat → Int} (h : w.ownsRow B t 1 v n ((List.range n).map fun i => Value.int k (f i))) : MR w B k v n f := by
  rcases h.2 with ⟨rfl, rfl⟩ | ⟨g, cap, cur, rfl, hbg, hg, hnc, hcm, hcs, htake⟩
  · exact .inl ⟨_, _, rfl, fun _ => rfl, rfl⟩
  · refine .inr ⟨g, cap, cur, t, rfl, hbg, hg, fun i hi => ?_⟩
    have h1 : (cur.toList.take (n * 1))[i]? = some (.int k (f i)) := by rw [htake]; simp [hi]
    rw [List.getElem?_take] at h1
    rw [if_pos (by omega)] at h1
    simpa using h1

set_option maxHeartbeats 2000000 in
set_option maxRecDepth 100000 in
theorem cloneu_some (ad : Addr) (n c : Nat) (f : Nat → Int) (w : World) (hn : n ≤ 64) (hc : ∀ j, j < n → w.cell? (ad.add j) = some (.int .u64 (f j))) :
    Calls Try.prog 25 #[.slice (some ad) n c] w fun e w' => ∃ v', e = .returned v' ∧ MR w' w.heap.size .u64 v' n f ∧ Below w.heap.size w w' := by
  obtain ⟨i0, hi, hz0, hz1, hz2⟩ := info_parts Try.info41
  have q := fun w a n c n' c' => bits_none w a n c n' c'
  have A := Lib.hid hc
  clear hc
  go_enter Try.func25, Try.ntmps25
  go_wp2_with (at_builtin; refine wpList_append_own _ rfl _ _ 24 rfl w.heap.size 41 i0 (.int .u64 0) 1 8 Try.underlying24 hi hz0 hz1 hz2 rfl (by decide) _ _ _ rfl (World.ownsRow_made w #[] 0 (Nat.le_refl _) (Nat.zero_le _) rfl) ad n c ((List.range n).map fun i => Value.int .u64 (f i)) rfl ?qc1 ?qc2 ?qc3 ?qc4 ?qc5 ?qc6 ?_)
  case qc1 => simp
  case qc2 =>
    intro j u hj
    have hjn : j < n := by
      have := (List.getElem?_eq_some_iff.1 hj).1
      simpa using this
    refine Lib.cell?_alloc_some _ ?_
    rw [A.out j hjn]
    simpa [hjn] using hj
  case qc3 => intro u hu; obtain ⟨x, _, rfl⟩ := List.mem_map.1 hu; rfl
  case qc4 => unfold maxLen; omega
  case qc5 => omega
  case qc6 => simp
  intro v' w1 hown hgrow hnil
  go_wp2
  go_ret
  refine ⟨v', rfl, MR.own (by simpa using hown), ?_⟩
  exact ((Below.refl _ w).alloc (Nat.le_refl _) _).grown hgrow (by simp) (by intro k hk; simp [Value.ownBlock] at hk; omega)
set_option maxHeartbeats 400000 in
theorem cloneu_none (n c : Nat) (f : Nat → Int) (w : World) (hn : n = 0) (hc : c = 0) :
    Calls Try.prog 25 #[.slice none n c] w fun e w' => ∃ v', e = .returned v' ∧ MR w' w.heap.size .u64 v' n f ∧ Below w.heap.size w w' := by
  have q := fun w a n c n' c' => bits_none w a n c n' c'
  subst hn
  subst hc
  go_enter Try.func25, Try.ntmps25
  go_wp2
  go_ret
  exact ⟨_, rfl, .inl ⟨_, _, rfl, fun _ => rfl, rfl⟩, Below.refl _ _⟩
theorem cloneu_any (v : Value) (n : Nat) (f : Nat → Int) (w : World) (hn : n ≤ 64) (h : Row w w.heap.size .u64 v n f) :
    Calls Try.prog 25 #[v] w fun e w' => ∃ v', e = .returned v' ∧ MR w' w.heap.size .u64 v' n f ∧ Below w.heap.size w w' := by
  obtain ⟨a, c, rfl, h0, h⟩ := h
  rcases a with _ | ad
  · exact cloneu_none n c f w (h0 rfl).1 (h0 rfl).2
  · refine cloneu_some ad n c f w hn fun j hj => ?_
    obtain ⟨b, off, e, _, hc⟩ := h (by omega)
    obtain rfl := Option.some.inj e
    rw [Addr.add_lit]
    exact hc j hj

/-- A row: m times s, then empty strings. -/
def rp (s : Int) (k m : Nat) : Array Value := (List.replicate m (Value.int .i64 s) ++ List.replicate (k - m) (Value.int .i64 0)).toArray
theorem rp_size (s : Int) (k m : Nat) (h : m ≤ k) : (rp s k m).size = k := by simp [rp]; omega
theorem rp_zero (s : Int) (k : Nat) : rp s k 0 = madeCells #[.int .i64 0] k := by
  unfold rp madeCells
  apply Array.ext'
  simp
  apply List.ext_getElem
  · simp
  · intro i h1 h2; simp [Nat.mod_one]
theorem rp_head (s : Int) (k m j : Nat) (h : j < m) : (rp s k m)[j]? = some (.int .i64 s) := by
  simp [rp, List.getElem?_append, h]
theorem rp_step (s : Int) (k m c : Nat) (h : m + c ≤ k) : ((rp s k m).toList.take m ++ List.replicate c (Value.int .i64 s) ++ (rp s k m).toList.drop (m + (List.replicate c (Value.int .i64 s)).length)).toArray = rp s k (m + c) := by
  unfold rp
  congr 1
  simp only [List.length_replicate, List.take_left' (List.length_replicate ..)]
  rw [List.drop_append, List.length_replicate, List.drop_eq_nil_of_le (by simp), List.nil_append, List.drop_replicate, List.replicate_append_replicate]
  congr 2
  omega

set_option maxHeartbeats 2000000 in
theorem repeat_any (b : Nat) (s : Int) (k : Nat) (w : World) (hk : 1 ≤ k) (hk2 : k ≤ 16384) (hc : w.cell? ⟨b, 0, none⟩ = some (.int .i64 s)) :
    Calls Try.prog 27 #[.slice (some ⟨b, 0, none⟩) 1 1, .int .i64 k] w fun e w' => e = .returned (.slice (some ⟨w.heap.size, 0, none⟩) k k) ∧ Bk w' w.heap.size 3 (rp s k k) ∧ Below w.heap.size w w' := by
  obtain ⟨i0, hi, hz0, hz1, hz2⟩ := info_parts Try.info3
  have hmk := fun wx => run_make (P := Try.prog) wx 30 3 i0 (.int .i64 0) Try.underlying30 hi hz0 .i64 .i64 k k (by omega) (by omega) (by rw [hz2]; omega) (by omega)
  simp only [hz1, Nat.mul_one, Value.cells, Int.toNat_natCast, ← rp_zero s k] at hmk
  have hsz : (Try.prog.info? 3).map (·.size) = some 1 := by rw [hi]; simp [hz1]
  have cm := mul_any 1 k (by omega) (by omega)
  rw [Nat.one_mul, Nat.div_eq_of_lt (by omega), Nat.mod_eq_of_lt (by omega)] at cm
  have CM := Lib.hid cm; clear cm
  have hB : b < w.heap.size := World.block_lt_of_cell? w _ hc
  have hcp1 := fun ty => run_copy_row (P := Try.prog) (w.alloc (.cells (rp s k 0) 3)) 30 30 ty 3 w.heap.size 0 k k ⟨b, 0, none⟩ 1 1 (rp s k 0) 3 [.int .i64 s] Try.underlying30 hsz (heap_alloc_new w _) (by simp [Nat.min_def]; omega) (by intro j v hj; rcases j with _ | j <;> simp at hj; subst hj; exact Lib.cell?_alloc_some _ hc) (by rw [rp_size _ _ _ (by omega)]; simpa using hk) (by simp [Value.oneCell'])
  rw [show [Value.int .i64 s] = List.replicate 1 (Value.int .i64 s) from rfl] at hcp1
  have st := rp_step s k 0 1 (by omega)
  rw [st] at hcp1
  simp only [List.length_replicate] at hcp1
  have HI := Lib.hid hi; have HSZ := Lib.hid hsz; clear hi hz0 hz1 hz2 hsz st
  go_enter Try.func27, Try.ntmps27
  go_wp2_with fail
  refine (CM.out _).mono ?_
  rintro e w1 ⟨rfl, hw⟩
  subst w1
  go_wp2
  have g0 : Bk ((w.alloc (.cells (rp s k 0) 3)).setRow w.heap.size (rp s k 1)) w.heap.size 3 (rp s k 1) := setRow_heap _ _ _ _ _ _ (heap_alloc_new w _)
  have hb0 : Below w.heap.size w ((w.alloc (.cells (rp s k 0) 3)).setRow w.heap.size (rp s k 1)) := by
    have h0 := (Below.refl _ w).alloc (Nat.le_refl _) (.cells (rp s k 0) 3)
    exact ⟨h0.os, h0.tape, h0.output, by simp [World.setRow], fun i hi => (setRow_other _ _ _ _ (by omega)).trans (h0.block i hi)⟩
  clear hcp1 hmk
  generalize (w.alloc (.cells (rp s k 0) 3)).setRow w.heap.size (rp s k 1) = w0 at g0 hb0 ⊢
  go_loopw [8] (fun i wr => ∃ m : Nat, 1 ≤ m ∧ m ≤ k ∧ i = .int .i64 m ∧ Bk wr w.heap.size 3 (rp s k m) ∧ Below w.heap.size w wr) (fun i _ => k - (intOf i).toNat)
  case atStart => exact ⟨1, Nat.le_refl _, hk, by rfl, g0, hb0⟩
  case round =>
    clear g0 hb0
    obtain ⟨m, hm1, hm, rfl, g, hB⟩ := hrel
    by_cases hlt : m < k
    · obtain ⟨c, hc⟩ : ∃ c, c = min (k - m) m := ⟨_, rfl⟩
      have hcp := fun ty => run_copy_row (P := Try.prog) wr.drew 30 30 ty 3 w.heap.size m (k - m) (k - m) ⟨w.heap.size, 0, none⟩ m k (rp s k m) 3 (List.replicate c (.int .i64 s)) Try.underlying30 HSZ.out g.drew (by simp [hc, Nat.min_comm])
        (by
          intro j v hj
          have hj' := (List.getElem?_eq_some_iff.1 hj)
          obtain ⟨h1, h2⟩ := hj'
          simp at h1 h2
          rw [Addr.add_lit, Nat.zero_add, g.drew.cell j, rp_head s k m j (by omega), h2])
        (by rw [rp_size _ _ _ hm]; simp; omega) (by intro v hv; rw [(List.mem_replicate.1 hv).2]; rfl)
      have st := rp_step s k m c (by omega)
      rw [st] at hcp
      simp only [List.length_replicate] at hcp
      have hne : k ≠ m := by omega
      have G2 := Lib.hid (setRow_heap wr.drew w.heap.size (rp s k m) (rp s k (m + c)) 3 (0, 0) g.drew)
      have HB2 := Lib.hid hB
      clear g hB
      go_wp2_with fail
      go_region
      go_wp2
      go_roundw
      case rel =>
        rw [← hc]
        refine ⟨m + c, by omega, by omega, by go_num, G2.out, ?_⟩
        have h0 := HB2.out
        exact ⟨h0.os, h0.tape, h0.output, by simpa [World.setRow] using h0.size, fun i hi => (setRow_other _ _ _ _ (by omega)).trans (h0.block i hi)⟩
      case measure => simp [intOf]; omega
    · obtain rfl : m = k := by omega
      go_wp2
      go_ret
      exact ⟨rfl, g, hB⟩

/-- The greatest of the first k. -/
def mxi (f : Nat → Int) : Nat → Int
  | 0 => f 0
  | k + 1 => max (mxi f k) (f (k + 1))
theorem mxi_ge (f : Nat → Int) (k i : Nat) (h : i ≤ k) : f i ≤ mxi f k := by
  induction k with
  | zero => obtain rfl : i = 0 := by omega
            exact Int.le_refl _
  | succ k ih =>
    simp only [mxi]
    rcases Nat.lt_or_ge k i with h1 | h1
    · obtain rfl : i = k + 1 := by omega
      omega
    · have := ih h1; omega
theorem mxi_in (f : Nat → Int) (k : Nat) : ∃ i, i ≤ k ∧ f i = mxi f k := by
  induction k with
  | zero => exact ⟨0, Nat.le_refl _, rfl⟩
  | succ k ih =>
    obtain ⟨i, h1, h2⟩ := ih
    simp only [mxi]
    by_cases h : mxi f k ≤ f (k + 1)
    · exact ⟨k + 1, Nat.le_refl _, by omega⟩
    · exact ⟨i, by omega, by omega⟩

set_option maxHeartbeats 1000000 in
theorem max_any (v : Value) (m : Nat) (f : Nat → Int) (w : World) (hm0 : 0 < m) (hm : m ≤ maxLen) (h : Row w w.heap.size .i64 v m f) :
    Calls Try.prog 26 #[v] w fun e w' => e = .returned (.int .i64 (mxi f (m - 1))) ∧ Below w.heap.size w w' := by
  obtain ⟨a, c, rfl, _, h⟩ := h
  obtain ⟨b, off, rfl, hbB, hc⟩ := h hm0
  have hm' : m ≤ 9223372036854775807 := by simp only [maxLen] at hm; omega
  have c0 : w.cell? ⟨b, off, none⟩ = some (.int .i64 (f 0)) := hc 0 hm0
  have HC := Lib.hid hc
  have z0 : mxi f 0 = f 0 := rfl
  rw [← z0] at c0
  clear hc hm z0
  have hm1 : ¬ ((m : Int) < 1) := by omega
  go_enter Try.func26, Try.ntmps26
  go_wp2
  clear c0 hm1
  go_loopw [3, 4] (fun x i wr => ∃ k : Nat, 1 ≤ k ∧ k ≤ m ∧ i = .int .i64 k ∧ x = .int .i64 (mxi f (k - 1)) ∧ Below w.heap.size w wr) (fun _ i _ => m - (intOf i).toNat)
  case atStart => exact ⟨1, Nat.le_refl _, by omega, rfl, rfl, Below.refl _ _⟩
  case round =>
    obtain ⟨k, hk1, hk, rfl, rfl, hb⟩ := hrel
    have HB := Lib.hid hb
    by_cases hlt : k < m
    · have q0 : wr.cell? ⟨b, off + k, none⟩ = some (.int .i64 (f k)) := by rw [hb.cell (p := ⟨b, off + k, none⟩) hbB]; exact HC.out k hlt
      have st : mxi f (k + 1 - 1) = max (mxi f (k - 1)) (f k) := by
        obtain ⟨j, rfl⟩ : ∃ j, k = j + 1 := ⟨k - 1, by omega⟩
        rfl
      have ST := Lib.hid st
      clear hb st
      generalize mxi f (k - 1) = y at *
      generalize f k = fk at *
      go_wp2
      go_roundw
      case rel =>
        refine ⟨k + 1, by omega, by omega, by go_num, ?_, HB.out⟩
        rw [ST.out]
      case measure => simp [intOf]; omega
    · obtain rfl : k = m := by omega
      clear hb
      go_wp2
      go_ret
      exact ⟨rfl, HB.out⟩
end Go.Proofs.Ytehifnkpmhbimaa
