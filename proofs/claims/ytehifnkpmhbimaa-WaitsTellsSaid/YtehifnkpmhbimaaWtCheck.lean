/- The walks of waits.check, of the document's own, of sameBits and sameInts, slices.Equal. -/
import Derived.Test.YtehifnkpmhbimaaWtRead
import Derived.WalkSpells
import Derived.WalkLawsBesides
set_option linter.unusedVariables false
set_option linter.unusedSimpArgs false
namespace Go.Proofs.Ytehifnkpmhbimaa
open Go.RowKit

def Ok1 (n s t : Int) : Prop := 0 ≤ s ∧ s < n ∧ 0 ≤ t ∧ t < n
theorem not_ok1 {n s t : Int} (h : ¬ Ok1 n s t) : s < 0 ∨ (0 ≤ s ∧ n ≤ s) ∨ (0 ≤ s ∧ s < n ∧ t < 0) ∨ (0 ≤ s ∧ s < n ∧ 0 ≤ t ∧ n ≤ t) := by unfold Ok1 at h; omega

set_option maxHeartbeats 2000000 in
theorem check_any (n : Int) (v : Value) (m : Nat) (s t : Nat → Int) (w : World) (h0 : -9223372036854775808 ≤ n) (h1 : n ≤ 9223372036854775807) (ha : ArcI w w.heap.size v m s t) :
    Calls Try.prog 19 #[.int .i64 n, v] w fun e w' => ((e = .returned (.int .i64 0) ∧ Fine n m s t) ∨ (e = .returned (.int .i64 1) ∧ ¬ Fine n m s t)) ∧ Below w.heap.size w w' := by
  by_cases hn : 0 ≤ n ∧ n ≤ 64
  · obtain ⟨hn0, hn1⟩ := hn
    obtain ⟨a, c, rfl, hm, ha⟩ := ha
    have HA := Lib.hid ha
    have hm' : m ≤ 9223372036854775807 := by simp only [maxLen] at hm; omega
    clear ha hm
    go_enter Try.func19, Try.ntmps19
    go_wp2
    go_loopw [15] (fun i wr => ∃ k : Nat, k ≤ m ∧ i = .int .i64 k ∧ (∀ j, j < k → Ok1 n (s j) (t j)) ∧ Below w.heap.size w wr) (fun i _ => m - (intOf i).toNat)
    case atStart => exact ⟨0, Nat.zero_le _, rfl, (fun j hj => absurd hj (Nat.not_lt_zero j)), Below.refl _ _⟩
    case round =>
      obtain ⟨k, hk, rfl, hall, hb⟩ := hrel
      have HALL := Lib.hid hall
      clear hall
      by_cases hlt : k < m
      · obtain ⟨b, off, rfl, hbB, hcell⟩ := HA.out (by omega)
        have q0 : wr.cell? ⟨b, off + k * 2, none⟩ = some (.int .i64 (s k)) := by rw [hb.cell (p := ⟨b, off + k * 2, none⟩) hbB]; exact (hcell k hlt).1
        have q1 : wr.cell? ⟨b, off + (k * 2 + 1), none⟩ = some (.int .i64 (t k)) := by rw [hb.cell (p := ⟨b, off + (k * 2 + 1), none⟩) hbB]; exact (hcell k hlt).2
        have q2 : wr.cell? ⟨b, off + k * 2 + 1, none⟩ = some (.int .i64 (t k)) := q1
        have HB := Lib.hid hb
        have STEP := Lib.hid (fun (h : Ok1 n (s k) (t k)) (j : Nat) (hj : j < k + 1) => show Ok1 n (s j) (t j) by
          rcases Nat.lt_or_ge j k with h1 | h1
          · exact HALL.out j h1
          · obtain rfl : j = k := by omega
            exact h)
        have BAD := Lib.hid (fun (h : ¬ Ok1 n (s k) (t k)) => show ¬ Fine n m s t from fun hf => h (hf.2.2 k hlt))
        clear hb hcell HALL
        generalize s k = sk at *
        generalize t k = tk at *
        by_cases hok : Ok1 n sk tk
        · have ST := Lib.hid (STEP.out hok)
          obtain ⟨g1, g2, g3, g4⟩ := hok
          have e1 : ¬ sk < 0 := by omega
          have e2 : ¬ n ≤ sk := by omega
          have e3 : ¬ tk < 0 := by omega
          have e4 : ¬ n ≤ tk := by omega
          go_wp2
          go_roundw
          case rel => exact ⟨k + 1, by omega, by go_num, ST.out, HB.out.alloc HB.out.size _⟩
          case measure => simp [intOf]; omega
        · have BD := Lib.hid (BAD.out hok)
          rcases not_ok1 hok with g | ⟨g1, g⟩ | ⟨g1, g2, g⟩ | ⟨g1, g2, g3, g⟩
          all_goals
            clear hok
            try have e1 : ¬ sk < 0 := by omega
            try have e2 : ¬ n ≤ sk := by omega
            try have e3 : ¬ tk < 0 := by omega
            go_wp2
            go_ret
            exact ⟨.inr ⟨rfl, BD.out⟩, HB.out.alloc HB.out.size _⟩
      · obtain rfl : k = m := by omega
        have FN := Lib.hid (show Fine n k s t from ⟨hn0, hn1, fun i hi => HALL.out i hi⟩)
        have HB := Lib.hid hb
        clear hb
        go_wp2
        go_ret
        exact ⟨.inl ⟨rfl, FN.out⟩, HB.out⟩
  · have NF := Lib.hid (show ¬ Fine n m s t from fun h => hn ⟨h.1, h.2.1⟩)
    rcases (show n < 0 ∨ (¬ n < 0 ∧ 64 < n) by omega) with h | ⟨h, h'⟩
    all_goals
      clear hn ha
      go_enter Try.func19, Try.ntmps19
      go_wp2
      go_ret
      exact ⟨.inr ⟨rfl, NF.out⟩, Below.refl _ _⟩

set_option maxHeartbeats 2000000 in
theorem wrong_any (n : Int) (v : Value) (m : Nat) (s t : Nat → Int) (w : World) (h0 : -9223372036854775808 ≤ n) (h1 : n ≤ 9223372036854775807) (ha : ArcI w w.heap.size v m s t) :
    Calls Try.prog 21 #[.int .i64 n, v] w fun e w' => ((e = .returned (.bool false) ∧ Fine n m s t) ∨ (e = .returned (.bool true) ∧ ¬ Fine n m s t)) ∧ Below w.heap.size w w' := by
  by_cases hn : 0 ≤ n ∧ n ≤ 64
  · obtain ⟨hn0, hn1⟩ := hn
    obtain ⟨a, c, rfl, hm, ha⟩ := ha
    have HA := Lib.hid ha
    have hm' : m ≤ 9223372036854775807 := by simp only [maxLen] at hm; omega
    clear ha hm
    go_enter Try.func21, Try.ntmps21
    go_wp2
    go_loopw [5] (fun i wr => ∃ k : Nat, k ≤ m ∧ i = .int .i64 k ∧ (∀ j, j < k → Ok1 n (s j) (t j)) ∧ Below w.heap.size w wr) (fun i _ => m - (intOf i).toNat)
    case atStart => exact ⟨0, Nat.zero_le _, rfl, (fun j hj => absurd hj (Nat.not_lt_zero j)), Below.refl _ _⟩
    case round =>
      obtain ⟨k, hk, rfl, hall, hb⟩ := hrel
      have HALL := Lib.hid hall
      clear hall
      by_cases hlt : k < m
      · obtain ⟨b, off, rfl, hbB, hcell⟩ := HA.out (by omega)
        have q0 : wr.cell? ⟨b, off + k * 2, none⟩ = some (.int .i64 (s k)) := by rw [hb.cell (p := ⟨b, off + k * 2, none⟩) hbB]; exact (hcell k hlt).1
        have q1 : wr.cell? ⟨b, off + (k * 2 + 1), none⟩ = some (.int .i64 (t k)) := by rw [hb.cell (p := ⟨b, off + (k * 2 + 1), none⟩) hbB]; exact (hcell k hlt).2
        have q2 : wr.cell? ⟨b, off + k * 2 + 1, none⟩ = some (.int .i64 (t k)) := q1
        have HB := Lib.hid hb
        have STEP := Lib.hid (fun (h : Ok1 n (s k) (t k)) (j : Nat) (hj : j < k + 1) => show Ok1 n (s j) (t j) by
          rcases Nat.lt_or_ge j k with h1 | h1
          · exact HALL.out j h1
          · obtain rfl : j = k := by omega
            exact h)
        have BAD := Lib.hid (fun (h : ¬ Ok1 n (s k) (t k)) => show ¬ Fine n m s t from fun hf => h (hf.2.2 k hlt))
        clear hb hcell HALL
        generalize s k = sk at *
        generalize t k = tk at *
        by_cases hok : Ok1 n sk tk
        · have ST := Lib.hid (STEP.out hok)
          obtain ⟨g1, g2, g3, g4⟩ := hok
          have e1 : ¬ sk < 0 := by omega
          have e2 : ¬ n ≤ sk := by omega
          have e3 : ¬ tk < 0 := by omega
          have e4 : ¬ n ≤ tk := by omega
          go_wp2
          go_roundw
          case rel => exact ⟨k + 1, by omega, by go_num, ST.out, HB.out⟩
          case measure => simp [intOf]; omega
        · have BD := Lib.hid (BAD.out hok)
          rcases not_ok1 hok with g | ⟨g1, g⟩ | ⟨g1, g2, g⟩ | ⟨g1, g2, g3, g⟩
          all_goals
            clear hok
            try have e1 : ¬ sk < 0 := by omega
            try have e2 : ¬ n ≤ sk := by omega
            try have e3 : ¬ tk < 0 := by omega
            go_wp2
            go_ret
            exact ⟨.inr ⟨rfl, BD.out⟩, HB.out⟩
      · obtain rfl : k = m := by omega
        have FN := Lib.hid (show Fine n k s t from ⟨hn0, hn1, fun i hi => HALL.out i hi⟩)
        have HB := Lib.hid hb
        clear hb
        go_wp2
        go_ret
        exact ⟨.inl ⟨rfl, FN.out⟩, HB.out⟩
  · have NF := Lib.hid (show ¬ Fine n m s t from fun h => hn ⟨h.1, h.2.1⟩)
    rcases (show n < 0 ∨ (¬ n < 0 ∧ 64 < n) by omega) with h | ⟨h, h'⟩
    all_goals
      clear hn ha
      go_enter Try.func21, Try.ntmps21
      go_wp2
      go_ret
      exact ⟨.inr ⟨rfl, NF.out⟩, Below.refl _ _⟩

/-- Are two rows alike? -/
def Alike (m m' : Nat) (f g : Nat → Int) : Prop := m = m' ∧ ∀ i, i < m → f i = g i

set_option maxHeartbeats 2000000 in
theorem sameBits_any (v u : Value) (m m' : Nat) (f g : Nat → Int) (w : World) (hv : Row w w.heap.size .u64 v m f) (hu : Row w w.heap.size .u64 u m' g) (hm : m ≤ maxLen) :
    Calls Try.prog 14 #[v, u] w fun e w' => ((e = .returned (.bool true) ∧ Alike m m' f g) ∨ (e = .returned (.bool false) ∧ ¬ Alike m m' f g)) ∧ Below w.heap.size w w' := by
  obtain ⟨a, c, rfl, _, hv⟩ := hv
  obtain ⟨a', c', rfl, _, hu⟩ := hu
  have HV := Lib.hid hv; have HU := Lib.hid hu
  clear hv hu
  by_cases hmm : m = m'
  · subst hmm
    have hm' : m ≤ 9223372036854775807 := by simp only [maxLen] at hm; omega
    clear hm
    go_enter Try.func14, Try.ntmps14
    go_wp2
    go_loopw [13] (fun i wr => ∃ k : Nat, k ≤ m ∧ i = .int .i64 k ∧ (∀ j, j < k → f j = g j) ∧ Below w.heap.size w wr) (fun i _ => m - (intOf i).toNat)
    case atStart => exact ⟨0, Nat.zero_le _, rfl, (fun j hj => absurd hj (Nat.not_lt_zero j)), Below.refl _ _⟩
    case round =>
      obtain ⟨k, hk, rfl, hall, hb⟩ := hrel
      have HALL := Lib.hid hall
      clear hall
      by_cases hlt : k < m
      · obtain ⟨b, off, rfl, hbB, hcell⟩ := HV.out (by omega)
        obtain ⟨b', off', rfl, hbB', hcell'⟩ := HU.out (by omega)
        have q0 : wr.cell? ⟨b, off + k, none⟩ = some (.int .u64 (f k)) := by rw [hb.cell (p := ⟨b, off + k, none⟩) hbB]; exact hcell k hlt
        have q1 : wr.cell? ⟨b', off' + k, none⟩ = some (.int .u64 (g k)) := by rw [hb.cell (p := ⟨b', off' + k, none⟩) hbB']; exact hcell' k hlt
        have HB := Lib.hid hb
        have STEP := Lib.hid (fun (h : f k = g k) (j : Nat) (hj : j < k + 1) => show f j = g j by
          rcases Nat.lt_or_ge j k with h1 | h1
          · exact HALL.out j h1
          · obtain rfl : j = k := by omega
            exact h)
        have BAD := Lib.hid (fun (h : ¬ f k = g k) => show ¬ Alike m m f g from fun hf => h (hf.2 k hlt))
        clear hb hcell hcell' HALL HV HU
        generalize f k = fk at *
        generalize g k = gk at *
        by_cases hok : fk = gk
        · have ST := Lib.hid (STEP.out hok)
          subst hok
          clear STEP BAD
          go_wp2_with fail
          go_region
          go_wp2
          go_roundw
          case rel => exact ⟨k + 1, by omega, by go_num, ST.out, below_drewN HB.out 1⟩
          case measure => simp [intOf]; omega
        · have BD := Lib.hid (BAD.out hok)
          clear STEP BAD
          have hne : (fk != gk) = true := by simpa using hok
          clear hok
          go_wp2_with fail
          go_region
          go_wp2
          go_ret
          exact ⟨.inr ⟨rfl, BD.out⟩, below_drewN HB.out 1⟩
      · obtain rfl : k = m := by omega
        have FN := Lib.hid (show Alike k k f g from ⟨rfl, fun i hi => HALL.out i hi⟩)
        have HB := Lib.hid hb
        clear hb
        go_wp2
        go_ret
        exact ⟨.inl ⟨rfl, FN.out⟩, HB.out⟩
  · have NA := Lib.hid (show ¬ Alike m m' f g from fun h => hmm h.1)
    have hne : ((m : Int) != (m' : Int)) = true := by simp; omega
    clear hmm
    go_enter Try.func14, Try.ntmps14
    go_wp2
    go_ret
    exact ⟨.inr ⟨rfl, NA.out⟩, Below.refl _ _⟩

set_option maxHeartbeats 2000000 in
theorem sameInts_any (v u : Value) (m m' : Nat) (f g : Nat → Int) (w : World) (hv : Row w w.heap.size .i64 v m f) (hu : Row w w.heap.size .i64 u m' g) (hm : m ≤ maxLen) :
    Calls Try.prog 15 #[v, u] w fun e w' => ((e = .returned (.bool true) ∧ Alike m m' f g) ∨ (e = .returned (.bool false) ∧ ¬ Alike m m' f g)) ∧ Below w.heap.size w w' := by
  obtain ⟨a, c, rfl, _, hv⟩ := hv
  obtain ⟨a', c', rfl, _, hu⟩ := hu
  have HV := Lib.hid hv; have HU := Lib.hid hu
  clear hv hu
  by_cases hmm : m = m'
  · subst hmm
    have hm' : m ≤ 9223372036854775807 := by simp only [maxLen] at hm; omega
    clear hm
    go_enter Try.func15, Try.ntmps15
    go_wp2
    go_loopw [13] (fun i wr => ∃ k : Nat, k ≤ m ∧ i = .int .i64 k ∧ (∀ j, j < k → f j = g j) ∧ Below w.heap.size w wr) (fun i _ => m - (intOf i).toNat)
    case atStart => exact ⟨0, Nat.zero_le _, rfl, (fun j hj => absurd hj (Nat.not_lt_zero j)), Below.refl _ _⟩
    case round =>
      obtain ⟨k, hk, rfl, hall, hb⟩ := hrel
      have HALL := Lib.hid hall
      clear hall
      by_cases hlt : k < m
      · obtain ⟨b, off, rfl, hbB, hcell⟩ := HV.out (by omega)
        obtain ⟨b', off', rfl, hbB', hcell'⟩ := HU.out (by omega)
        have q0 : wr.cell? ⟨b, off + k, none⟩ = some (.int .i64 (f k)) := by rw [hb.cell (p := ⟨b, off + k, none⟩) hbB]; exact hcell k hlt
        have q1 : wr.cell? ⟨b', off' + k, none⟩ = some (.int .i64 (g k)) := by rw [hb.cell (p := ⟨b', off' + k, none⟩) hbB']; exact hcell' k hlt
        have HB := Lib.hid hb
        have STEP := Lib.hid (fun (h : f k = g k) (j : Nat) (hj : j < k + 1) => show f j = g j by
          rcases Nat.lt_or_ge j k with h1 | h1
          · exact HALL.out j h1
          · obtain rfl : j = k := by omega
            exact h)
        have BAD := Lib.hid (fun (h : ¬ f k = g k) => show ¬ Alike m m f g from fun hf => h (hf.2 k hlt))
        clear hb hcell hcell' HALL HV HU
        generalize f k = fk at *
        generalize g k = gk at *
        by_cases hok : fk = gk
        · have ST := Lib.hid (STEP.out hok)
          subst hok
          clear STEP BAD
          go_wp2_with fail
          go_region
          go_wp2
          go_roundw
          case rel => exact ⟨k + 1, by omega, by go_num, ST.out, below_drewN HB.out 1⟩
          case measure => simp [intOf]; omega
        · have BD := Lib.hid (BAD.out hok)
          clear STEP BAD
          have hne : (fk != gk) = true := by simpa using hok
          clear hok
          go_wp2_with fail
          go_region
          go_wp2
          go_ret
          exact ⟨.inr ⟨rfl, BD.out⟩, below_drewN HB.out 1⟩
      · obtain rfl : k = m := by omega
        have FN := Lib.hid (show Alike k k f g from ⟨rfl, fun i hi => HALL.out i hi⟩)
        have HB := Lib.hid hb
        clear hb
        go_wp2
        go_ret
        exact ⟨.inl ⟨rfl, FN.out⟩, HB.out⟩
  · have NA := Lib.hid (show ¬ Alike m m' f g from fun h => hmm h.1)
    have hne : ((m : Int) != (m' : Int)) = true := by simp; omega
    clear hmm
    go_enter Try.func15, Try.ntmps15
    go_wp2
    go_ret
    exact ⟨.inr ⟨rfl, NA.out⟩, Below.refl _ _⟩

set_option maxHeartbeats 2000000 in
theorem equal_any (v u : Value) (m m' : Nat) (f g : Nat → Int) (w : World) (hv : Row w w.heap.size .u64 v m f) (hu : Row w w.heap.size .u64 u m' g) (hm : m ≤ maxLen) :
    Calls Try.prog 20 #[v, u] w fun e w' => ((e = .returned (.bool true) ∧ Alike m m' f g) ∨ (e = .returned (.bool false) ∧ ¬ Alike m m' f g)) ∧ Below w.heap.size w w' := by
  obtain ⟨a, c, rfl, _, hv⟩ := hv
  obtain ⟨a', c', rfl, _, hu⟩ := hu
  have HV := Lib.hid hv; have HU := Lib.hid hu
  clear hv hu
  by_cases hmm : m = m'
  · subst hmm
    have hm' : m ≤ 9223372036854775807 := by simp only [maxLen] at hm; omega
    clear hm
    go_enter Try.func20, Try.ntmps20
    go_wp2
    go_loopw [13] (fun i wr => ∃ k : Nat, k ≤ m ∧ i = .int .i64 k ∧ (∀ j, j < k → f j = g j) ∧ Below w.heap.size w wr) (fun i _ => m - (intOf i).toNat)
    case atStart => exact ⟨0, Nat.zero_le _, rfl, (fun j hj => absurd hj (Nat.not_lt_zero j)), Below.refl _ _⟩
    case round =>
      obtain ⟨k, hk, rfl, hall, hb⟩ := hrel
      have HALL := Lib.hid hall
      clear hall
      by_cases hlt : k < m
      · obtain ⟨b, off, rfl, hbB, hcell⟩ := HV.out (by omega)
        obtain ⟨b', off', rfl, hbB', hcell'⟩ := HU.out (by omega)
        have q0 : wr.cell? ⟨b, off + k, none⟩ = some (.int .u64 (f k)) := by rw [hb.cell (p := ⟨b, off + k, none⟩) hbB]; exact hcell k hlt
        have q1 : wr.cell? ⟨b', off' + k, none⟩ = some (.int .u64 (g k)) := by rw [hb.cell (p := ⟨b', off' + k, none⟩) hbB']; exact hcell' k hlt
        have HB := Lib.hid hb
        have STEP := Lib.hid (fun (h : f k = g k) (j : Nat) (hj : j < k + 1) => show f j = g j by
          rcases Nat.lt_or_ge j k with h1 | h1
          · exact HALL.out j h1
          · obtain rfl : j = k := by omega
            exact h)
        have BAD := Lib.hid (fun (h : ¬ f k = g k) => show ¬ Alike m m f g from fun hf => h (hf.2 k hlt))
        clear hb hcell hcell' HALL HV HU
        generalize f k = fk at *
        generalize g k = gk at *
        by_cases hok : fk = gk
        · have ST := Lib.hid (STEP.out hok)
          subst hok
          clear STEP BAD
          go_wp2_with fail
          go_region
          go_wp2
          go_roundw
          case rel => exact ⟨k + 1, by omega, by go_num, ST.out, below_drewN HB.out 1⟩
          case measure => simp [intOf]; omega
        · have BD := Lib.hid (BAD.out hok)
          clear STEP BAD
          have hne : (fk != gk) = true := by simpa using hok
          clear hok
          go_wp2_with fail
          go_region
          go_wp2
          go_ret
          exact ⟨.inr ⟨rfl, BD.out⟩, below_drewN HB.out 1⟩
      · obtain rfl : k = m := by omega
        have FN := Lib.hid (show Alike k k f g from ⟨rfl, fun i hi => HALL.out i hi⟩)
        have HB := Lib.hid hb
        clear hb
        go_wp2
        go_ret
        exact ⟨.inl ⟨rfl, FN.out⟩, HB.out⟩
  · have NA := Lib.hid (show ¬ Alike m m' f g from fun h => hmm h.1)
    have hne : ((m : Int) != (m' : Int)) = true := by simp; omega
    clear hmm
    go_enter Try.func20, Try.ntmps20
    go_wp2
    go_ret
    exact ⟨.inr ⟨rfl, NA.out⟩, Below.refl _ _⟩
end Go.Proofs.Ytehifnkpmhbimaa
