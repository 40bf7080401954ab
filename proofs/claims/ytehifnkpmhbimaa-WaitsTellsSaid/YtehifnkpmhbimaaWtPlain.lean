/- Arcs, digests, distances, circles: plain mathematics. No program in sight. -/
import Derived.Laws.Bits64b
set_option linter.unusedVariables false
set_option linter.unusedSimpArgs false
namespace Go.Proofs.Ytehifnkpmhbimaa

/-- Arcs: how many, whence, whither. -/
structure Arcs where
  m : Nat
  s : Nat → Nat
  t : Nat → Nat

namespace Arcs
variable (A : Arcs)
/-- Of the first k arcs one leads from a to b. -/
def has (k a b : Nat) : Prop := ∃ i, i < k ∧ A.s i = a ∧ A.t i = b
/-- All ends are below n. -/
def In (n : Nat) : Prop := ∀ i, i < A.m → A.s i < n ∧ A.t i < n
/-- The first k arcs alone. -/
def cut (k : Nat) : Arcs := ⟨k, A.s, A.t⟩

/-- Does one of the first k arcs lead from j to one of p? -/
def some_ (p : Nat → Bool) : Nat → Nat → Bool
  | 0, _ => false
  | k + 1, j => some_ p k j || (A.s k == j && p (A.t k))
theorem some_iff (p : Nat → Bool) (k j : Nat) : A.some_ p k j = true ↔ ∃ i, i < k ∧ A.s i = j ∧ p (A.t i) = true := by
  induction k with
  | zero => simp [some_]
  | succ k ih =>
    rw [some_, Bool.or_eq_true, ih, Bool.and_eq_true, beq_iff_eq]
    constructor
    · rintro (⟨i, h1, h2⟩ | ⟨h1, h2⟩)
      · exact ⟨i, by omega, h2⟩
      · exact ⟨k, by omega, h1, h2⟩
    · rintro ⟨i, h1, h2⟩
      rcases Nat.lt_or_ge i k with h | h
      · exact .inl ⟨i, h, h2⟩
      · obtain rfl : i = k := by omega
        exact .inr h2

/-- By r arcs at most from j to x. -/
def W (x : Nat) : Nat → Nat → Bool
  | 0, j => j == x
  | r + 1, j => j == x || A.some_ (W x r) A.m j
theorem W_self (x r : Nat) : A.W x r x = true := by cases r <;> simp [W]
theorem W_succ (x r j : Nat) : A.W x (r + 1) j = true ↔ j = x ∨ ∃ i, i < A.m ∧ A.s i = j ∧ A.W x r (A.t i) = true := by
  rw [W, Bool.or_eq_true, beq_iff_eq, some_iff]
theorem W_step (x r j : Nat) (h : A.W x r j = true) : A.W x (r + 1) j = true := by
  induction r generalizing j with
  | zero => rw [W_succ]; left; simpa [W] using h
  | succ r ih =>
    rw [W_succ] at h ⊢
    rcases h with h | ⟨i, h1, h2, h3⟩
    · exact .inl h
    · exact .inr ⟨i, h1, h2, ih _ h3⟩
theorem W_mono {x r q j : Nat} (hq : r ≤ q) (h : A.W x r j = true) : A.W x q j = true := by
  induction q with
  | zero => obtain rfl : r = 0 := by omega
            exact h
  | succ q ih =>
    rcases Nat.lt_or_ge q r with hl | hl
    · obtain rfl : r = q + 1 := by omega
      exact h
    · exact A.W_step _ _ _ (ih hl)

/-- How many below n are of p. -/
def cnt (p : Nat → Bool) : Nat → Nat
  | 0 => 0
  | n + 1 => cnt p n + if p n then 1 else 0
theorem cnt_le (p : Nat → Bool) (n : Nat) : cnt p n ≤ n := by
  induction n with
  | zero => simp [cnt]
  | succ n ih => simp only [cnt]; split <;> omega
theorem cnt_mono {p q : Nat → Bool} (n : Nat) (h : ∀ j, j < n → p j = true → q j = true) : cnt p n ≤ cnt q n := by
  induction n with
  | zero => simp [cnt]
  | succ n ih =>
    have := ih fun j hj => h j (by omega)
    simp only [cnt]
    by_cases hp : p n = true
    · rw [if_pos hp, if_pos (h n (by omega) hp)]; omega
    · rw [if_neg hp]; omega
theorem cnt_lt {p q : Nat → Bool} {n k : Nat} (h : ∀ j, j < n → p j = true → q j = true) (hk : k < n) (h1 : p k = false) (h2 : q k = true) : cnt p n < cnt q n := by
  induction n with
  | zero => omega
  | succ n ih =>
    simp only [cnt]
    rcases Nat.lt_or_ge k n with hl | hl
    · have := ih (fun j hj => h j (by omega)) hl
      by_cases hp : p n = true
      · rw [if_pos hp, if_pos (h n (by omega) hp)]; omega
      · rw [if_neg hp]; omega
    · obtain rfl : k = n := by omega
      have := cnt_mono k fun j hj => h j (by omega)
      rw [if_neg (by simp [h1]), if_pos h2]
      omega
theorem cnt_full {p : Nat → Bool} {n : Nat} (h : cnt p n = n) : ∀ j, j < n → p j = true := by
  induction n with
  | zero => intro j hj; omega
  | succ n ih =>
    have h1 := cnt_le p n
    simp only [cnt] at h
    by_cases hp : p n = true
    · rw [if_pos hp] at h
      intro j hj
      rcases Nat.lt_or_ge j n with hl | hl
      · exact ih (by omega) j hl
      · obtain rfl : j = n := by omega
        exact hp
    · rw [if_neg hp] at h
      omega

/-- Sets below n that grow, each made of the one before: from the n-th on (less as many as stand at the start) they stay. -/
theorem settle {p : Nat → Nat → Bool} {n c : Nat} (hm : ∀ r j, j < n → p r j = true → p (r + 1) j = true) (hs : ∀ r, (∀ j, j < n → p (r + 1) j = p r j) → ∀ j, j < n → p (r + 2) j = p (r + 1) j)
    (h0 : c ≤ cnt (p 0) n) : ∀ r, n ≤ r + c → ∀ j, j < n → p (r + 1) j = p r j := by
  have key : ∀ r, (∀ j, j < n → p (r + 1) j = p r j) ∨ r + c ≤ cnt (p r) n := by
    intro r
    induction r with
    | zero => right; omega
    | succ r ih =>
      rcases ih with ih | ih
      · exact .inl (hs r ih)
      · by_cases hd : ∀ j, j < n → p (r + 1) j = p r j
        · exact .inl (hs r hd)
        · right
          have : ∃ j, j < n ∧ p (r + 1) j ≠ p r j := by
            apply Classical.byContradiction
            intro hne
            apply hd
            intro j hj
            apply Classical.byContradiction
            intro hc
            exact hne ⟨j, hj, hc⟩
          obtain ⟨j, hj, hne⟩ := this
          have h1 : p r j = false := by
            rcases hpr : p r j with _ | _
            · rfl
            · exact absurd ((hm r j hj hpr).trans hpr.symm) hne
          have h2 : p (r + 1) j = true := by
            rcases hpr : p (r + 1) j with _ | _
            · exact absurd (hpr.trans h1.symm) hne
            · rfl
          have := cnt_lt (hm r) hj h1 h2
          omega
  intro r hr
  rcases key r with h | h
  · exact h
  · have h1 := cnt_le (p r) n
    have hf := cnt_full (p := p r) (n := n) (by omega)
    intro j hj
    rw [hf j hj, hm r j hj (hf j hj)]

theorem W_again {n x : Nat} (hA : A.In n) (r : Nat) (h : ∀ j, j < n → A.W x (r + 1) j = A.W x r j) (j : Nat) (hj : j < n) : A.W x (r + 2) j = A.W x (r + 1) j := by
  rw [Bool.eq_iff_iff, W_succ, W_succ]
  constructor
  · rintro (h1 | ⟨i, h1, h2, h3⟩)
    · exact .inl h1
    · exact .inr ⟨i, h1, h2, by rw [← h _ (hA i h1).2]; exact h3⟩
  · rintro (h1 | ⟨i, h1, h2, h3⟩)
    · exact .inl h1
    · exact .inr ⟨i, h1, h2, by rw [h _ (hA i h1).2]; exact h3⟩
theorem cnt_one {p : Nat → Bool} {n x : Nat} (hx : x < n) (h : p x = true) : 1 ≤ cnt p n := by
  have := cnt_lt (p := fun _ => false) (q := p) (n := n) (k := x) (by simp) hx rfl h
  omega
/-- What is reached at all is reached by less than n arcs. -/
theorem W_settled {n x : Nat} (hA : A.In n) (hx : x < n) {r j : Nat} (hr : n ≤ r + 1) (hj : j < n) : A.W x (r + 1) j = A.W x r j :=
  settle (p := A.W x) (fun r j _ h => A.W_step x r j h) (A.W_again hA) (cnt_one hx (A.W_self x 0)) r hr j hj
theorem W_all {n x : Nat} (hA : A.In n) (hx : x < n) {r j : Nat} (hj : j < n) (h : A.W x r j = true) : A.W x (n - 1) j = true := by
  rcases Nat.lt_or_ge (n - 1) r with hl | hl
  · have : ∀ d, A.W x (n - 1 + d) j = true → A.W x (n - 1) j = true := by
      intro d
      induction d with
      | zero => exact id
      | succ d ih => intro h; rw [← Nat.add_assoc, A.W_settled hA hx (by omega) hj] at h; exact ih h
    exact this (r - (n - 1)) (by rw [show n - 1 + (r - (n - 1)) = r by omega]; exact h)
  · exact A.W_mono hl h

/-- By how many arcs at least from j to x; n, if by none. -/
def ds (n x j : Nat) : Nat := cnt (fun r => !A.W x r j) n
theorem cnt_pre (p : Nat → Bool) (hp : ∀ r, p (r + 1) = true → p r = true) (n r : Nat) (hr : r < n) : p r = true ↔ r < cnt p n := by
  induction n generalizing r with
  | zero => omega
  | succ n ih =>
    simp only [cnt]
    have hle := cnt_le p n
    have hall : p n = true → cnt p n = n := by
      intro h
      have : ∀ d, d ≤ n → p (n - d) = true := by
        intro d
        induction d with
        | zero => intro _; exact h
        | succ d ihd => intro hd; exact hp _ (by rw [show n - (d + 1) + 1 = n - d by omega]; exact ihd (by omega))
      rcases n with _ | n
      · rfl
      · have h1 := (ih n (by omega)).1 (by have := this 1 (by omega); simpa using this)
        omega
    rcases Nat.lt_or_ge r n with hl | hl
    · rw [ih r hl]
      by_cases hn : p n = true
      · rw [if_pos hn, hall hn]; omega
      · rw [if_neg hn]; omega
    · obtain rfl : r = n := by omega
      by_cases hn : p r = true
      · rw [if_pos hn, hall hn]; simp [hn]
      · rw [if_neg hn]
        constructor
        · intro h; exact absurd h hn
        · intro h; omega
theorem ds_le (n x j : Nat) : A.ds n x j ≤ n := cnt_le _ _
theorem W_ds {n x r j : Nat} (hr : r < n) : A.W x r j = true ↔ A.ds n x j ≤ r := by
  have := cnt_pre (fun r => !A.W x r j) (fun q hq => by
    simp only [Bool.not_eq_true'] at hq ⊢
    rcases h : A.W x q j with _ | _
    · rfl
    · rw [A.W_step _ _ _ h] at hq; cases hq) n r hr
  unfold ds
  constructor
  · intro h
    rcases Nat.lt_or_ge r (cnt (fun r => !A.W x r j) n) with hl | hl
    · have := this.2 hl; simp [h] at this
    · exact hl
  · intro h
    rcases hw : A.W x r j with _ | _
    · have := this.1 (by simp [hw]); omega
    · rfl
theorem ds_zero {n x j : Nat} (hn : 0 < n) : A.ds n x j = 0 ↔ j = x := by
  have := A.W_ds (x := x) (j := j) hn
  simp only [W, beq_iff_eq] at this
  omega
theorem ds_arc {n x i : Nat} (hi : i < A.m) : A.ds n x (A.s i) ≤ A.ds n x (A.t i) + 1 := by
  rcases Nat.lt_or_ge (A.ds n x (A.t i) + 1) n with h | h
  · refine (A.W_ds h).1 ?_
    rw [W_succ]
    exact .inr ⟨i, hi, rfl, (A.W_ds (by omega)).2 (Nat.le_refl _)⟩
  · exact Nat.le_trans (A.ds_le _ _ _) h
/-- One step nearer. -/
theorem ds_next {n x j d : Nat} (h : A.ds n x j = d + 1) (hd : d + 1 < n) : ∃ i, i < A.m ∧ A.s i = j ∧ A.ds n x (A.t i) = d := by
  have h1 := (A.W_ds (j := j) (x := x) hd).2 (by omega)
  rw [W_succ] at h1
  rcases h1 with h1 | ⟨i, h1, h2, h3⟩
  · have := (A.ds_zero (x := x) (j := j) (n := n) (by omega)).2 h1; omega
  · refine ⟨i, h1, h2, ?_⟩
    have h4 := (A.W_ds (n := n) (x := x) (r := d) (by omega)).1 h3
    have h5 := A.ds_arc (n := n) (x := x) h1
    rw [h2] at h5
    omega

/-- What relaxing comes to: a table that no arc makes less, and whose numbers below n are real. -/
theorem ds_of {n x : Nat} {f : Nat → Nat} (hx : x < n) (hA : A.In n) (h0 : f x = 0) (hle : ∀ j, j < n → f j ≤ n) (hreal : ∀ j, j < n → f j < n → A.W x (f j) j = true)
    (hfix : ∀ i, i < A.m → f (A.s i) ≤ f (A.t i) + 1) (j : Nat) (hj : j < n) : f j = A.ds n x j := by
  have up : ∀ r j, j < n → A.W x r j = true → f j ≤ r := by
    intro r
    induction r with
    | zero => intro j _ h; simp only [W, beq_iff_eq] at h; subst h; omega
    | succ r ih =>
      intro j hj h
      rw [W_succ] at h
      rcases h with h | ⟨i, h1, h2, h3⟩
      · subst h; omega
      · have := ih _ (hA i h1).2 h3
        have := hfix i h1
        rw [h2] at this
        omega
  have hd := A.ds_le n x j
  have hf := hle j hj
  rcases Nat.lt_or_ge (A.ds n x j) n with h | h
  · have h1 := up _ j hj ((A.W_ds h).2 (Nat.le_refl _))
    have h2 := (A.W_ds (j := j) (x := x) (show f j < n by omega)).1 (hreal j hj (by omega))
    omega
  · rcases Nat.lt_or_ge (f j) n with h2 | h2
    · have := (A.W_ds h2).1 (hreal j hj h2); omega
    · omega

/-! ## Digests -/
/-- Digest j, when the first k arcs have been gone over. -/
def sp (D : Nat → Nat) : Nat → Nat → Nat
  | 0, j => D j
  | k + 1, j => if j = A.s k then sp D k j ||| (D (A.t k) ||| 2 ^ A.t k) else sp D k j
/-- Digests behind r rounds from nothing. -/
def it : Nat → Nat → Nat
  | 0, _ => 0
  | r + 1, j => A.sp (it r) A.m j
theorem sp_lt {D : Nat → Nat} {n : Nat} (hD : ∀ j, j < n → D j < 18446744073709551616) (hA : A.In n) (hn : n ≤ 64) (k : Nat) (hk : k ≤ A.m) (j : Nat) (hj : j < n) : A.sp D k j < 18446744073709551616 := by
  induction k with
  | zero => exact hD j hj
  | succ k ih =>
    have hk' := hA k (by omega)
    have h1 : D (A.t k) < 2 ^ 64 := hD _ hk'.2
    have h2 : 2 ^ A.t k < 2 ^ 64 := Nat.pow_lt_pow_right (by omega) (by omega)
    have h3 : A.sp D k j < 2 ^ 64 := ih (by omega)
    simp only [sp]
    split
    · exact Nat.or_lt_two_pow h3 (Nat.or_lt_two_pow h1 h2)
    · exact h3
theorem sp_congr {D E : Nat → Nat} {n : Nat} (hA : A.In n) (h : ∀ j, j < n → D j = E j) (k : Nat) (hk : k ≤ A.m) (j : Nat) (hj : j < n) : A.sp D k j = A.sp E k j := by
  induction k with
  | zero => exact h j hj
  | succ k ih => simp only [sp]; rw [ih (by omega), h _ (hA k (by omega)).2]
theorem sp_bit (D : Nat → Nat) (k j x : Nat) : (A.sp D k j).testBit x = true ↔ (D j).testBit x = true ∨ ∃ i, i < k ∧ A.s i = j ∧ ((D (A.t i)).testBit x = true ∨ A.t i = x) := by
  induction k with
  | zero => simp [sp]
  | succ k ih =>
    simp only [sp]
    by_cases h : j = A.s k
    · rw [if_pos h, Nat.testBit_or, Nat.testBit_or, Bool.or_eq_true, Bool.or_eq_true, ih, Nat.testBit_two_pow, decide_eq_true_iff]
      constructor
      · rintro ((h1 | ⟨i, h1, h2⟩) | h1)
        · exact .inl h1
        · exact .inr ⟨i, by omega, h2⟩
        · exact .inr ⟨k, by omega, h.symm, h1⟩
      · rintro (h1 | ⟨i, h1, h2, h3⟩)
        · exact .inl (.inl h1)
        · rcases Nat.lt_or_ge i k with hl | hl
          · exact .inl (.inr ⟨i, hl, h2, h3⟩)
          · obtain rfl : i = k := by omega
            exact .inr h3
    · rw [if_neg h, ih]
      constructor
      · rintro (h1 | ⟨i, h1, h2⟩)
        · exact .inl h1
        · exact .inr ⟨i, by omega, h2⟩
      · rintro (h1 | ⟨i, h1, h2, h3⟩)
        · exact .inl h1
        · rcases Nat.lt_or_ge i k with hl | hl
          · exact .inr ⟨i, hl, h2, h3⟩
          · obtain rfl : i = k := by omega
            exact absurd h2.symm h
theorem it_lt {n : Nat} (hA : A.In n) (hn : n ≤ 64) (r j : Nat) (hj : j < n) : A.it r j < 18446744073709551616 := by
  induction r generalizing j with
  | zero => simp [it]
  | succ r ih => exact A.sp_lt ih hA hn _ (Nat.le_refl _) j hj
/-- Bit x of digest j behind r + 1 rounds: an arc leads to one from which x is r arcs away at most. -/
theorem it_bit (r j x : Nat) : (A.it (r + 1) j).testBit x = true ↔ ∃ i, i < A.m ∧ A.s i = j ∧ A.W x r (A.t i) = true := by
  induction r generalizing j with
  | zero =>
    show (A.sp (A.it 0) A.m j).testBit x = true ↔ _
    rw [sp_bit]
    simp [it, W]
  | succ r ih =>
    show (A.sp (A.it (r + 1)) A.m j).testBit x = true ↔ _
    rw [sp_bit]
    constructor
    · rintro (h | ⟨i, h1, h2, h3⟩)
      · obtain ⟨i, h1, h2, h3⟩ := (ih j).1 h
        exact ⟨i, h1, h2, A.W_step _ _ _ h3⟩
      · refine ⟨i, h1, h2, ?_⟩
        rw [W_succ]
        rcases h3 with h3 | h3
        · exact .inr ((ih _).1 h3)
        · exact .inl h3
    · rintro ⟨i, h1, h2, h3⟩
      rw [W_succ] at h3
      rcases h3 with h3 | h3
      · exact .inr ⟨i, h1, h2, .inr h3⟩
      · exact .inr ⟨i, h1, h2, .inl ((ih _).2 h3)⟩
theorem it_bit_lt {n : Nat} (hA : A.In n) (r j x : Nat) (h : (A.it r j).testBit x = true) : x < n := by
  induction r generalizing j with
  | zero => simp [it] at h
  | succ r ih =>
    rcases (A.sp_bit _ _ _ _).1 h with h | ⟨i, h1, _, h3⟩
    · exact ih _ h
    · rcases h3 with h3 | rfl
      · exact ih _ h3
      · exact (hA i h1).2
theorem it_step {n : Nat} (hA : A.In n) {r : Nat} (hr : n ≤ r) (j : Nat) (hj : j < n) : A.it (r + 1) j = A.it r j := by
  apply Nat.eq_of_testBit_eq
  intro x
  rcases r with _ | r
  · omega
  rw [Bool.eq_iff_iff, it_bit, it_bit]
  constructor
  · rintro ⟨i, h1, h2, h3⟩
    have hx : x < n := A.it_bit_lt hA (r + 2) j x ((A.it_bit _ _ _).2 ⟨i, h1, h2, h3⟩)
    exact ⟨i, h1, h2, by rw [← A.W_settled hA hx hr (hA i h1).2]; exact h3⟩
  · rintro ⟨i, h1, h2, h3⟩
    exact ⟨i, h1, h2, A.W_step _ _ _ h3⟩
theorem it_stays {n : Nat} (hA : A.In n) {r : Nat} (h : ∀ j, j < n → A.it (r + 1) j = A.it r j) (d : Nat) : ∀ j, j < n → A.it (r + d) j = A.it r j := by
  induction d with
  | zero => intro j _; rfl
  | succ d ih =>
    intro j hj
    show A.sp (A.it (r + d)) A.m j = _
    rw [A.sp_congr hA ih _ (Nat.le_refl _) j hj]
    exact h j hj
/-- Once a round changes nothing, it is at its end. -/
theorem it_end {n : Nat} (hA : A.In n) {r : Nat} (hr : r ≤ n) (h : ∀ j, j < n → A.it (r + 1) j = A.it r j) (j : Nat) (hj : j < n) : A.it r j = A.it n j := by
  have := A.it_stays hA h (n - r) j hj
  rw [show r + (n - r) = n by omega] at this
  exact this.symm
/-- Whom each waits for. -/
theorem it_ds {n : Nat} (hA : A.In n) (hn : 0 < n) (j x : Nat) (hx : x < n) : (A.it n j).testBit x = true ↔ ∃ i, i < A.m ∧ A.s i = j ∧ A.ds n x (A.t i) < n := by
  obtain ⟨n, rfl⟩ : ∃ m, n = m + 1 := ⟨n - 1, by omega⟩
  rw [it_bit]
  constructor
  · rintro ⟨i, h1, h2, h3⟩
    exact ⟨i, h1, h2, by have := (A.W_ds (n := n + 1) (by omega)).1 h3; omega⟩
  · rintro ⟨i, h1, h2, h3⟩
    exact ⟨i, h1, h2, (A.W_ds (n := n + 1) (by omega)).2 (by omega)⟩

/-! ## The best of those that one waits for -/
/-- Is a ahead of b? -/
def ahead (n x a b : Nat) : Bool := decide (A.ds n x a < A.ds n x b) || (A.ds n x a == A.ds n x b && decide (a < b))
/-- Of the ends of the first k arcs from 'from' the best. -/
def best (n x from_ : Nat) : Nat → Option Nat
  | 0 => none
  | k + 1 => if A.s k = from_ then (match best n x from_ k with | none => some (A.t k) | some b => if A.ahead n x (A.t k) b then some (A.t k) else some b) else best n x from_ k
theorem best_none {n x f k : Nat} (h : A.best n x f k = none) : ∀ i, i < k → A.s i ≠ f := by
  induction k with
  | zero => intro i hi; omega
  | succ k ih =>
    simp only [best] at h
    by_cases hs : A.s k = f
    · rw [if_pos hs] at h
      split at h
      · cases h
      · split at h <;> cases h
    · rw [if_neg hs] at h
      intro i hi
      rcases Nat.lt_or_ge i k with hl | hl
      · exact ih h i hl
      · obtain rfl : i = k := by omega
        exact hs
theorem best_some {n x f k b : Nat} (h : A.best n x f k = some b) : (∃ i, i < k ∧ A.s i = f ∧ A.t i = b) ∧ ∀ i, i < k → A.s i = f → A.ds n x b ≤ A.ds n x (A.t i) := by
  induction k generalizing b with
  | zero => simp [best] at h
  | succ k ih =>
    simp only [best] at h
    by_cases hs : A.s k = f
    · rw [if_pos hs] at h
      split at h
      · rename_i hn
        obtain rfl := Option.some.inj h
        refine ⟨⟨k, by omega, hs, rfl⟩, fun i hi hf => ?_⟩
        rcases Nat.lt_or_ge i k with hl | hl
        · exact absurd hf (A.best_none hn i hl)
        · obtain rfl : i = k := by omega
          exact Nat.le_refl _
      · rename_i c hc
        obtain ⟨⟨i0, h1, h2, h3⟩, h4⟩ := ih hc
        split at h
        · rename_i ha
          obtain rfl := Option.some.inj h
          simp only [ahead, Bool.or_eq_true, Bool.and_eq_true, decide_eq_true_eq, beq_iff_eq] at ha
          refine ⟨⟨k, by omega, hs, rfl⟩, fun i hi hf => ?_⟩
          rcases Nat.lt_or_ge i k with hl | hl
          · have := h4 i hl hf; omega
          · obtain rfl : i = k := by omega
            exact Nat.le_refl _
        · rename_i ha
          obtain rfl := Option.some.inj h
          simp only [ahead, Bool.or_eq_true, Bool.and_eq_true, decide_eq_true_eq, beq_iff_eq] at ha
          refine ⟨⟨i0, by omega, h2, h3⟩, fun i hi hf => ?_⟩
          rcases Nat.lt_or_ge i k with hl | hl
          · exact h4 i hl hf
          · obtain rfl : i = k := by omega
            omega
    · rw [if_neg hs] at h
      obtain ⟨⟨i0, h1, h2, h3⟩, h4⟩ := ih h
      refine ⟨⟨i0, by omega, h2, h3⟩, fun i hi hf => ?_⟩
      rcases Nat.lt_or_ge i k with hl | hl
      · exact h4 i hl hf
      · obtain rfl : i = k := by omega
        exact absurd hf hs
/-- As the document's own search has it: only those that x is reached from count. -/
def rbest (n x f k : Nat) : Int := match A.best n x f k with | none => -1 | some b => if A.ds n x b < n then (b : Int) else -1
theorem rbest_skip {n x f k : Nat} (h : A.s k ≠ f) : A.rbest n x f (k + 1) = A.rbest n x f k := by simp [rbest, best, h]
theorem rbest_far {n x f k : Nat} (h : n ≤ A.ds n x (A.t k)) : A.rbest n x f (k + 1) = A.rbest n x f k := by
  by_cases hs : A.s k = f
  · unfold rbest
    simp only [best, if_pos hs]
    rcases hb : A.best n x f k with _ | b
    · simp only; rw [if_neg (by omega)]
    · simp only
      by_cases ha : A.ahead n x (A.t k) b = true
      · rw [if_pos ha]
        simp only [ahead, Bool.or_eq_true, Bool.and_eq_true, decide_eq_true_eq, beq_iff_eq] at ha
        simp only
        rw [if_neg (by omega), if_neg (by omega)]
      · rw [if_neg ha]
  · exact A.rbest_skip hs
theorem rbest_first {n x f k : Nat} (hs : A.s k = f) (h : A.ds n x (A.t k) < n) (hr : A.rbest n x f k = -1) : A.rbest n x f (k + 1) = (A.t k : Int) := by
  unfold rbest at hr ⊢
  simp only [best, if_pos hs]
  rcases hb : A.best n x f k with _ | b
  · simp only; rw [if_pos h]
  · rw [hb] at hr
    simp only at hr ⊢
    by_cases hbn : A.ds n x b < n
    · rw [if_pos hbn] at hr; omega
    · rw [show A.ahead n x (A.t k) b = true by simp only [ahead, Bool.or_eq_true, decide_eq_true_eq]; left; omega]
      simp [h]
theorem rbest_val {n x f k b : Nat} (hr : A.rbest n x f k = (b : Int)) : A.best n x f k = some b ∧ A.ds n x b < n := by
  unfold rbest at hr
  split at hr
  · omega
  · rename_i c hc
    split at hr
    · rename_i hl
      obtain rfl : c = b := by omega
      exact ⟨hc, hl⟩
    · omega
theorem rbest_more {n x f k b : Nat} (hs : A.s k = f) (h : A.ds n x (A.t k) < n) (hr : A.rbest n x f k = (b : Int)) :
    A.rbest n x f (k + 1) = if A.ahead n x (A.t k) b then (A.t k : Int) else (b : Int) := by
  obtain ⟨hb, hl⟩ := A.rbest_val hr
  unfold rbest
  simp only [best, if_pos hs, hb]
  by_cases ha : A.ahead n x (A.t k) b = true
  · rw [if_pos ha, if_pos ha]; simp only; rw [if_pos h]
  · rw [if_neg ha, if_neg ha]; simp only; rw [if_pos hl]
theorem rbest_cases (n x f k : Nat) : A.rbest n x f k = -1 ∨ ∃ b : Nat, A.rbest n x f k = (b : Int) := by
  unfold rbest
  split
  · exact .inl rfl
  · split
    · exact .inr ⟨_, rfl⟩
    · exact .inl rfl

/-! ## Circles -/
/-- Where to go from j; j itself, if nowhere. -/
def nx (n x j : Nat) : Nat := (A.best n x j A.m).getD j
/-- The way round from x. -/
def q (n x : Nat) : Nat → Nat
  | 0 => x
  | i + 1 => A.nx n x (q n x i)
/-- Is x on a circle: does it wait for one from which x is reached? -/
def on (n x : Nat) : Bool := A.some_ (fun y => decide (A.ds n x y < n)) A.m x
theorem on_iff (n x : Nat) : A.on n x = true ↔ ∃ i, i < A.m ∧ A.s i = x ∧ A.ds n x (A.t i) < n := by
  unfold on; rw [some_iff]; simp
theorem rbest_on (n x : Nat) : A.on n x = true ↔ A.rbest n x x A.m = (A.nx n x x : Int) ∧ A.best n x x A.m = some (A.nx n x x) := by
  rw [on_iff]
  unfold rbest nx
  constructor
  · rintro ⟨i, h1, h2, h3⟩
    rcases hb : A.best n x x A.m with _ | b
    · exact absurd h2 (A.best_none hb i h1)
    · have := (A.best_some hb).2 i h1 h2
      simp only [Option.getD]
      exact ⟨by rw [if_pos (by omega)], trivial⟩
  · rintro ⟨h1, h2⟩
    rw [h2] at h1
    simp only at h1
    split at h1
    · rename_i hl
      obtain ⟨⟨i, h3, h4, h5⟩, _⟩ := A.best_some h2
      exact ⟨i, h3, h4, by rw [h5]; exact hl⟩
    · omega
theorem rbest_off {n x : Nat} (h : A.on n x = false) : A.rbest n x x A.m = -1 := by
  rcases A.rbest_cases n x x A.m with h1 | ⟨b, h1⟩
  · exact h1
  · obtain ⟨hb, hl⟩ := A.rbest_val h1
    obtain ⟨⟨i, h3, h4, h5⟩, _⟩ := A.best_some hb
    have := (A.on_iff n x).2 ⟨i, h3, h4, by rw [h5]; exact hl⟩
    rw [h] at this; cases this
theorem best_off {n x b : Nat} (h : A.on n x = false) (hb : A.best n x x A.m = some b) : n ≤ A.ds n x b := by
  rcases Nat.lt_or_ge (A.ds n x b) n with hl | hl
  · obtain ⟨⟨i, h3, h4, h5⟩, _⟩ := A.best_some hb
    have := (A.on_iff n x).2 ⟨i, h3, h4, by rw [h5]; exact hl⟩
    rw [h] at this; cases this
  · exact hl
/-- How long the circle is, less one. -/
def far (n x : Nat) : Nat := A.ds n x (A.nx n x x)
/-- From one that is d + 1 away the next one is d away. -/
theorem nx_down {n x j d : Nat} (h : A.ds n x j = d + 1) (hd : d + 1 < n) : A.best n x j A.m = some (A.nx n x j) ∧ A.ds n x (A.nx n x j) = d := by
  obtain ⟨i, h1, h2, h3⟩ := A.ds_next h hd
  unfold nx
  rcases hb : A.best n x j A.m with _ | b
  · exact absurd h2 (A.best_none hb i h1)
  · obtain ⟨⟨i', h4, h5, h6⟩, h7⟩ := A.best_some hb
    have := h7 i h1 h2
    have h8 := A.ds_arc (n := n) (x := x) h4
    rw [h5, h6] at h8
    simp only [Option.getD]
    exact ⟨trivial, by omega⟩
theorem q_on {n x : Nat} (h : A.on n x = true) (i : Nat) (hi : i ≤ A.far n x) :
    A.best n x (A.q n x i) A.m = some (A.q n x (i + 1)) ∧ A.ds n x (A.q n x (i + 1)) = A.far n x - i ∧ A.far n x < n := by
  have h0 := ((A.rbest_on n x).1 h)
  have hf : A.far n x < n := (A.rbest_val h0.1).2
  induction i with
  | zero => exact ⟨h0.2, rfl, hf⟩
  | succ i ih =>
    obtain ⟨_, h2, _⟩ := ih (by omega)
    obtain ⟨h3, h4⟩ := A.nx_down (d := A.far n x - (i + 1)) (by rw [h2]; omega) (by omega)
    exact ⟨h3, h4, hf⟩
theorem q_back {n x : Nat} (h : A.on n x = true) : A.q n x (A.far n x + 1) = x := by
  obtain ⟨_, h2, h3⟩ := A.q_on h _ (Nat.le_refl _)
  rw [Nat.sub_self] at h2
  exact (A.ds_zero (by omega)).1 h2
theorem q_not {n x : Nat} (h : A.on n x = true) (i : Nat) (hi : i < A.far n x) : A.q n x (i + 1) ≠ x := by
  obtain ⟨_, h2, h3⟩ := A.q_on h i (by omega)
  intro e
  have := (A.ds_zero (n := n) (x := x) (j := A.q n x (i + 1)) (by omega)).2 e
  omega
theorem q_lt {n x : Nat} (hA : A.In n) (hx : x < n) (h : A.on n x = true) (i : Nat) (hi : i ≤ A.far n x + 1) : A.q n x i < n := by
  rcases i with _ | i
  · exact hx
  · obtain ⟨h1, _, _⟩ := A.q_on h i (by omega)
    obtain ⟨⟨k, h4, h5, h6⟩, _⟩ := A.best_some h1
    rw [← h6]
    exact (hA k h4).2
/-- Each step is an arc. -/
theorem q_arc {n x : Nat} (h : A.on n x = true) (i : Nat) (hi : i ≤ A.far n x) : A.has A.m (A.q n x i) (A.q n x (i + 1)) := by
  obtain ⟨h1, _, _⟩ := A.q_on h i hi
  exact (A.best_some h1).1
/-- Who has its own bit stands in a circle. -/
theorem own_bit {n x : Nat} (hA : A.In n) (hx : x < n) : (A.it n x).testBit x = A.on n x := by
  rw [Bool.eq_iff_iff, A.it_ds hA (by omega) x x hx, on_iff]

/-! ## What the laws ask -/
/-- With more arcs nobody waits for fewer. -/
theorem it_cut {k : Nat} (hk : k ≤ A.m) (r j x : Nat) (h : ((A.cut k).it r j).testBit x = true) : (A.it r j).testBit x = true := by
  have hW : ∀ r j, (A.cut k).W x r j = true → A.W x r j = true := by
    intro r
    induction r with
    | zero => intro j h; exact h
    | succ r ih =>
      intro j h
      rw [W_succ] at h ⊢
      rcases h with h | ⟨i, h1, h2, h3⟩
      · exact .inl h
      · exact .inr ⟨i, Nat.lt_of_lt_of_le h1 hk, h2, ih _ h3⟩
  rcases r with _ | r
  · exact h
  · rw [it_bit] at h ⊢
    obtain ⟨i, h1, h2, h3⟩ := h
    exact ⟨i, Nat.lt_of_lt_of_le h1 hk, h2, hW _ _ h3⟩
theorem it_none (hm : A.m = 0) (r j : Nat) : A.it r j = 0 := by
  induction r generalizing j with
  | zero => rfl
  | succ r ih => show A.sp (A.it r) A.m j = 0; rw [hm]; exact ih j
theorem it_arc {n : Nat} (hA : A.In n) {i : Nat} (hi : i < A.m) : (A.it n (A.s i)).testBit (A.t i) = true := by
  have h := hA i hi
  rw [A.it_ds hA (by omega) _ _ h.2]
  exact ⟨i, hi, rfl, by rw [(A.ds_zero (by omega)).2 rfl]; omega⟩
/-- Who waits for one waits for all that one waits for. -/
theorem it_trans {n : Nat} (hA : A.In n) {a b x : Nat} (ha : a < n) (hb : (A.it n a).testBit b = true) (hx : (A.it n b).testBit x = true) : (A.it n a).testBit x = true := by
  have hbn := A.it_bit_lt hA _ _ _ hb
  have hxn := A.it_bit_lt hA _ _ _ hx
  obtain ⟨n, rfl⟩ : ∃ m, n = m + 1 := ⟨n - 1, by omega⟩
  rw [it_bit] at hb hx ⊢
  have hWb : A.W x (n + 1) b = true := (A.W_succ _ _ _).2 (.inr hx)
  have trans : ∀ r j, A.W b r j = true → A.W x (r + (n + 1)) j = true := by
    intro r
    induction r with
    | zero => intro j h; simp only [W, beq_iff_eq] at h; subst h; rw [Nat.zero_add]; exact hWb
    | succ r ih =>
      intro j h
      rw [W_succ] at h
      rcases h with h | ⟨i, h1, h2, h3⟩
      · subst h; exact A.W_mono (by omega) hWb
      · rw [show r + 1 + (n + 1) = (r + (n + 1)) + 1 by omega, W_succ]
        exact .inr ⟨i, h1, h2, ih _ h3⟩
  obtain ⟨i, h1, h2, h3⟩ := hb
  exact ⟨i, h1, h2, by have := A.W_all hA hxn (hA i h1).2 (trans _ _ h3); simpa using this⟩
/-- No bit of a outside b. -/
theorem within {a b : Nat} (h : ∀ x, a.testBit x = true → b.testBit x = true) : a ||| b = b := by
  apply Nat.eq_of_testBit_eq
  intro x
  rw [Nat.testBit_or]
  rcases ha : a.testBit x with _ | _
  · simp
  · simp [h x ha]
end Arcs
end Go.Proofs.Ytehifnkpmhbimaa
