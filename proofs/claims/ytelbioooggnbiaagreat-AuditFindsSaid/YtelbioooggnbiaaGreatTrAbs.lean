/- A tree of nodes below a node, told plainly, whatever keys and cells are: bounds, order, where a key belongs, a leaf replaced. No program in sight. A tree with a row more, told plainly, whatever keys and cells are: nodes that become two, from the leaf upwards. No program in sight. -/
import Derived.Test.YtelbioooggnbiaaGreatBk
set_option linter.unusedVariables false
set_option linter.unusedSimpArgs false
namespace Go.Proofs.YtelbioooggnbiaaGreat

/-- A node: its level, how many cells, their keys, children, cells. -/
structure Nd (K C : Type) where
  lv : Nat
  n : Nat
  key : Nat → K
  kid : Nat → Nat
  cell : Nat → C
namespace Nd
variable {K C : Type}
def rows (d : Nd K C) : List (K × C) := (List.range d.n).map fun q => (d.key q, d.cell q)
/-- The bounds of what hangs from a place. -/
def lo (d : Nd K C) (a : Option K) (q : Nat) : Option K := if q = 0 then a else some (d.key q)
def hi (d : Nd K C) (b : Option K) (q : Nat) : Option K := if q + 1 < d.n then some (d.key (q + 1)) else b
end Nd
section
variable {K C : Type} (lt : K → K → Prop)
/-- From a on, and below b. -/
def inR (a b : Option K) (k : K) : Prop := (∀ x, a = some x → ¬ lt k x) ∧ ∀ x, b = some x → lt k x
/-- A strict order, whole. -/
structure Ord : Prop where
  irr : ∀ a, ¬ lt a a
  tr : ∀ a b c, lt a b → lt b c → lt a c
  tri : ∀ a b, ¬ lt a b → ¬ lt b a → a = b
def flat {α : Type} (n : Nat) (f : Nat → List α) : List α := (List.range n).flatMap f
theorem flat_mem {α : Type} {n : Nat} {f : Nat → List α} {x : α} : x ∈ flat n f ↔ ∃ q, q < n ∧ x ∈ f q := by
  unfold flat
  rw [List.mem_flatMap]
  constructor
  · rintro ⟨q, h1, h2⟩; exact ⟨q, List.mem_range.1 h1, h2⟩
  · rintro ⟨q, h1, h2⟩; exact ⟨q, List.mem_range.2 h1, h2⟩
theorem flat_succ {α : Type} (n : Nat) (f : Nat → List α) : flat (n + 1) f = flat n f ++ f n := by
  unfold flat
  rw [List.range_succ, List.flatMap_append]
  simp
theorem flat_congr {α : Type} {n : Nat} {f g : Nat → List α} (h : ∀ q, q < n → f q = g q) : flat n f = flat n g := by
  induction n with
  | zero => rfl
  | succ n ih => rw [flat_succ, flat_succ, ih (fun q hq => h q (by omega)), h n (by omega)]
/-- One part taken out. -/
theorem flat_split {α : Type} (n : Nat) (f : Nat → List α) (q : Nat) (hq : q < n) : flat n f = flat q f ++ f q ++ flat (n - q - 1) (fun r => f (q + 1 + r)) := by
  have : ∀ m, flat q f ++ f q ++ flat m (fun r => f (q + 1 + r)) = flat (q + 1 + m) f := by
    intro m
    induction m with
    | zero => rw [Nat.add_zero, flat_succ]; simp [flat]
    | succ m ih => rw [flat_succ, ← List.append_assoc, ih, show q + 1 + (m + 1) = (q + 1 + m) + 1 by omega, flat_succ]
  rw [this, show q + 1 + (n - q - 1) = n by omega]
theorem flat_nodup {α : Type} {n : Nat} {f : Nat → List α} (h : (flat n f).Nodup) : (∀ q, q < n → (f q).Nodup) ∧ ∀ q r, q < r → r < n → ∀ x, x ∈ f q → x ∉ f r := by
  induction n with
  | zero => exact ⟨fun q hq => by omega, fun q r _ hr => by omega⟩
  | succ n ih =>
    rw [flat_succ, List.nodup_append] at h
    obtain ⟨h1, h2, h3⟩ := h
    obtain ⟨i1, i2⟩ := ih h1
    constructor
    · intro q hq
      by_cases e : q = n
      · subst e; exact h2
      · exact i1 q (by omega)
    · intro q r hqr hr x hx hy
      by_cases e : r = n
      · subst e
        exact h3 x (flat_mem.2 ⟨q, hqr, hx⟩) x hy rfl
      · exact i2 q r hqr (by omega) x hx hy
/-- What hangs from a node: its height, the node, the bounds; the leaves from the left to the right, all nodes, all rows. -/
inductive Tr (N : Nat → Nd K C) : Nat → Nat → Option K → Option K → List Nat → List Nat → List (K × C) → Prop
  | leaf {id : Nat} {a b : Option K} (h0 : (N id).lv = 0) (h1 : ∀ q, q < (N id).n → inR lt a b ((N id).key q)) (h2 : ∀ q r, q < r → r < (N id).n → lt ((N id).key q) ((N id).key r)) : Tr N 0 id a b [id] [id] (N id).rows
  | inner {h id : Nat} {a b : Option K} (lf ids : Nat → List Nat) (rs : Nat → List (K × C)) (h0 : (N id).lv = h + 1) (hn : 0 < (N id).n) (h1 : ∀ q, 0 < q → q < (N id).n → inR lt a b ((N id).key q)) (h2 : ∀ q r, 0 < q → q < r → r < (N id).n → lt ((N id).key q) ((N id).key r))
      (hk : ∀ q, q < (N id).n → Tr N h ((N id).kid q) ((N id).lo a q) ((N id).hi b q) (lf q) (ids q) (rs q)) : Tr N (h + 1) id a b (flat (N id).n lf) (id :: flat (N id).n ids) (flat (N id).n rs)
variable {lt}
/-- Nodes that it does not have play no part. -/
theorem Tr.frame {N N' : Nat → Nd K C} {h id : Nat} {a b : Option K} {lf ids : List Nat} {rs : List (K × C)} (t : Tr lt N h id a b lf ids rs) (hs : ∀ i, i ∈ ids → N' i = N i) : Tr lt N' h id a b lf ids rs := by
  induction t with
  | @leaf id a b h0 h1 h2 =>
    have e : N' id = N id := hs id (by simp)
    have := Tr.leaf (lt := lt) (N := N') (id := id) (a := a) (b := b) (by rw [e]; exact h0) (by rw [e]; exact h1) (by rw [e]; exact h2)
    rw [e] at this
    exact this
  | @inner h id a b lf ids rs h0 hn h1 h2 hk ih =>
    have e : N' id = N id := hs id (by simp)
    have := Tr.inner (lt := lt) (N := N') (h := h) (id := id) (a := a) (b := b) lf ids rs (by rw [e]; exact h0) (by rw [e]; exact hn) (by rw [e]; exact h1) (by rw [e]; exact h2) (by
      rw [e]
      exact fun q hq => ih q hq fun i hi => hs i (List.mem_cons_of_mem _ (flat_mem.2 ⟨q, hq, hi⟩)))
    rw [e] at this
    exact this
theorem inR_lo (o : Ord lt) {N : Nd K C} {a b : Option K} (h1 : ∀ q, 0 < q → q < N.n → inR lt a b (N.key q)) {q : Nat} (hq : q < N.n) {k : K} (hk : inR lt (N.lo a q) (N.hi b q) k) : inR lt a b k := by
  obtain ⟨ka, kb⟩ := hk
  constructor
  · intro x hx hlt
    unfold Nd.lo at ka
    by_cases e : q = 0
    · rw [if_pos e] at ka; exact ka x hx hlt
    · rw [if_neg e] at ka
      have h3 := ka _ rfl
      have h4 := (h1 q (by omega) hq).1 x hx
      by_cases e2 : lt (N.key q) k
      · exact h4 (o.tr _ _ _ e2 hlt)
      · have := o.tri _ _ h3 e2
        rw [this] at hlt
        exact h4 hlt
  · intro x hx
    unfold Nd.hi at kb
    by_cases e : q + 1 < N.n
    · rw [if_pos e] at kb
      exact o.tr _ _ _ (kb _ rfl) ((h1 (q + 1) (by omega) e).2 x hx)
    · rw [if_neg e] at kb; exact kb x hx
/-- All rows lie within the bounds. -/
theorem Tr.range (o : Ord lt) {N : Nat → Nd K C} {h id : Nat} {a b : Option K} {lf ids : List Nat} {rs : List (K × C)} (t : Tr lt N h id a b lf ids rs) : ∀ r, r ∈ rs → inR lt a b r.1 := by
  induction t with
  | @leaf id a b h0 h1 h2 =>
    intro r hr
    unfold Nd.rows at hr
    obtain ⟨q, hq, rfl⟩ := List.mem_map.1 hr
    exact h1 q (List.mem_range.1 hq)
  | @inner h id a b lf ids rs h0 hn h1 h2 hk ih =>
    intro r hr
    obtain ⟨q, hq, hr⟩ := flat_mem.1 hr
    exact inR_lo o h1 hq (ih q hq r hr)
/-- Of two places, what hangs from the first is below what hangs from the second. -/
theorem kid_lt (o : Ord lt) {N : Nd K C} {a b : Option K} (h2 : ∀ q r, 0 < q → q < r → r < N.n → lt (N.key q) (N.key r)) {q r : Nat} (hqr : q < r) (hr : r < N.n) {x y : K} (hx : inR lt (N.lo a q) (N.hi b q) x) (hy : inR lt (N.lo a r) (N.hi b r) y) : lt x y := by
  have e1 : lt x (N.key (q + 1)) := by
    have := hx.2
    unfold Nd.hi at this
    rw [if_pos (by omega)] at this
    exact this _ rfl
  have e2 : ¬ lt y (N.key r) := by
    have := hy.1
    unfold Nd.lo at this
    rw [if_neg (by omega)] at this
    exact this _ rfl
  have e3 : lt x (N.key r) := by
    by_cases e : q + 1 = r
    · rw [← e]; exact e1
    · exact o.tr _ _ _ e1 (h2 (q + 1) r (by omega) (by omega) hr)
  by_cases e4 : lt (N.key r) y
  · exact o.tr _ _ _ e3 e4
  · have := o.tri _ _ e2 e4
    rw [this]; exact e3
theorem flat_pairwise {α : Type} {R : α → α → Prop} {n : Nat} {f : Nat → List α} (h1 : ∀ q, q < n → (f q).Pairwise R) (h2 : ∀ q r, q < r → r < n → ∀ x, x ∈ f q → ∀ y, y ∈ f r → R x y) : (flat n f).Pairwise R := by
  induction n with
  | zero => exact List.Pairwise.nil
  | succ n ih =>
    rw [flat_succ, List.pairwise_append]
    refine ⟨ih (fun q hq => h1 q (by omega)) (fun q r hqr hr => h2 q r hqr (by omega)), h1 n (by omega), fun x hx y hy => ?_⟩
    obtain ⟨q, hq, hx⟩ := flat_mem.1 hx
    exact h2 q n hq (by omega) x hx y hy
/-- The rows stand in order. -/
theorem Tr.sorted (o : Ord lt) {N : Nat → Nd K C} {h id : Nat} {a b : Option K} {lf ids : List Nat} {rs : List (K × C)} (t : Tr lt N h id a b lf ids rs) : rs.Pairwise fun x y => lt x.1 y.1 := by
  induction t with
  | @leaf id a b h0 h1 h2 =>
    unfold Nd.rows
    rw [List.pairwise_map]
    refine (List.pairwise_lt_range (n := (N id).n)).imp_of_mem ?_
    intro q r hq hr hqr
    exact h2 q r hqr (List.mem_range.1 hr)
  | @inner h id a b lf ids rs h0 hn h1 h2 hk ih =>
    exact flat_pairwise ih fun q r hqr hr x hx y hy => kid_lt o h2 hqr hr ((hk q (by omega)).range o x hx) ((hk r hr).range o y hy)
/-- The place from which a key hangs. -/
def Way (lt : K → K → Prop) (d : Nd K C) (k : K) (q : Nat) : Prop := q < d.n ∧ (0 < q → ¬ lt k (d.key q)) ∧ (q + 1 < d.n → lt k (d.key (q + 1)))
theorem Way.inR {d : Nd K C} {a b : Option K} {k : K} {q : Nat} (h : Way lt d k q) (hk : inR lt a b k) : inR lt (d.lo a q) (d.hi b q) k := by
  constructor
  · intro x hx
    unfold Nd.lo at hx
    by_cases e : q = 0
    · rw [if_pos e] at hx; exact hk.1 x hx
    · rw [if_neg e] at hx
      injection hx with hx
      rw [← hx]
      exact h.2.1 (by omega)
  · intro x hx
    unfold Nd.hi at hx
    by_cases e : q + 1 < d.n
    · rw [if_pos e] at hx
      injection hx with hx
      rw [← hx]
      exact h.2.2 e
    · rw [if_neg e] at hx; exact hk.2 x hx
/-- The way down to the leaf that a key belongs to. -/
inductive Path (lt : K → K → Prop) (N : Nat → Nd K C) (k : K) : Nat → Nat → List Nat → Prop
  | leaf {id : Nat} : Path lt N k 0 id [id]
  | inner {h id q : Nat} {p : List Nat} (hw : Way lt (N id) k q) (hp : Path lt N k h ((N id).kid q) p) : Path lt N k (h + 1) id (id :: p)
/-- A key's leaf: its bounds, what stands to its left and to its right; it may be replaced by another one within its bounds. -/
theorem Tr.at_ (o : Ord lt) {N : Nat → Nd K C} {k : K} {h id : Nat} {p : List Nat} (hp : Path lt N k h id p) : ∀ {a b : Option K} {lf ids : List Nat} {rs : List (K × C)}, Tr lt N h id a b lf ids rs → inR lt a b k →
    ∃ (l : Nat) (a' b' : Option K) (A B : List (K × C)) (u v : List Nat), p.getLast? = some l ∧ l ∈ ids ∧ (N l).lv = 0 ∧ inR lt a' b' k ∧ rs = A ++ (N l).rows ++ B ∧ lf = u ++ [l] ++ v ∧ (∀ x, x ∈ A → lt x.1 k) ∧ (∀ x, x ∈ B → lt k x.1) ∧ Tr lt N 0 l a' b' [l] [l] (N l).rows ∧
      (∀ N' : Nat → Nd K C, ids.Nodup → (∀ i, i ∈ ids → i ≠ l → N' i = N i) → Tr lt N' 0 l a' b' [l] [l] (N' l).rows → Tr lt N' h id a b lf ids (A ++ (N' l).rows ++ B)) := by
  induction hp with
  | @leaf id =>
    intro a b lf ids rs t hk
    have t0 := t
    cases t with
    | leaf h0 h1 h2 =>
      exact ⟨id, a, b, [], [], [], [], rfl, by simp, h0, hk, by simp, by simp, fun x hx => (by cases hx), fun x hx => (by cases hx), t0, fun N' _ _ h => by simpa using h⟩
  | @inner h id q p hw hp ih =>
    intro a b lf ids rs t hk
    cases t with
    | inner lf ids rs h0 hn h1 h2 hkk =>
      have hq := hw.1
      obtain ⟨l, a', b', A, B, u, v, e1, e2, e3, e4, e5, e6, e7, e8, e9, e10⟩ := ih (hkk q hq) (hw.inR hk)
      have mkA : ∀ r, r < q → ∀ x, x ∈ rs r → lt x.1 k := fun r hr x hx => kid_lt o h2 hr hq ((hkk r (by omega)).range o x hx) (hw.inR hk)
      have mkB : ∀ r, q < r → r < (N id).n → ∀ x, x ∈ rs r → lt k x.1 := fun r hr hrn x hx => kid_lt o h2 hr hrn (hw.inR hk) ((hkk r hrn).range o x hx)
      refine ⟨l, a', b', flat q rs ++ A, B ++ flat ((N id).n - q - 1) (fun r => rs (q + 1 + r)), flat q lf ++ u, v ++ flat ((N id).n - q - 1) (fun r => lf (q + 1 + r)), ?_, List.mem_cons_of_mem _ (flat_mem.2 ⟨q, hq, e2⟩), e3, e4, ?_, ?_, ?_, ?_, e9, ?_⟩
      · cases p with
        | nil => simp at e1
        | cons x p => rw [List.getLast?_cons_cons]; exact e1
      · rw [flat_split _ rs q hq, e5]; simp [List.append_assoc]
      · rw [flat_split _ lf q hq, e6]; simp [List.append_assoc]
      · intro x hx
        rcases List.mem_append.1 hx with hx | hx
        · obtain ⟨r, hr, hx⟩ := flat_mem.1 hx
          exact mkA r hr x hx
        · exact e7 x hx
      · intro x hx
        rcases List.mem_append.1 hx with hx | hx
        · exact e8 x hx
        · obtain ⟨r, hr, hx⟩ := flat_mem.1 hx
          exact mkB (q + 1 + r) (by omega) (by omega) x hx
      · intro N' hnd hN hl
        rw [List.nodup_cons] at hnd
        obtain ⟨d1, d2⟩ := flat_nodup hnd.2
        have hid : N' id = N id := hN id (by simp) fun e => hnd.1 (by have h9 : l ∈ flat (N id).n ids := flat_mem.2 ⟨q, hq, e2⟩; rw [← e] at h9; exact h9)
        have hq2 := e10 N' (d1 q hq) (fun i hi hne => hN i (List.mem_cons_of_mem _ (flat_mem.2 ⟨q, hq, hi⟩)) hne) hl
        have := Tr.inner (lt := lt) (N := N') (h := h) (id := id) (a := a) (b := b) lf ids (fun r => if r = q then A ++ (N' l).rows ++ B else rs r) (by rw [hid]; exact h0) (by rw [hid]; exact hn) (by rw [hid]; exact h1) (by rw [hid]; exact h2) (by
          rw [hid]
          intro r hr
          by_cases e : r = q
          · subst e; rw [if_pos rfl]; exact hq2
          · rw [if_neg e]
            refine (hkk r hr).frame fun i hi => hN i (List.mem_cons_of_mem _ (flat_mem.2 ⟨r, hr, hi⟩)) fun e5 => ?_
            rw [e5] at hi
            rcases Nat.lt_or_gt_of_ne e with h5 | h5
            · exact d2 r q h5 hq _ hi e2
            · exact d2 q r h5 hr _ e2 hi)
        have e := flat_split (N id).n (fun r => if r = q then A ++ (N' l).rows ++ B else rs r) q hq
        have f1 : flat q (fun r => if r = q then A ++ (N' l).rows ++ B else rs r) = flat q rs := flat_congr fun r hr => if_neg (by omega)
        have f2 : flat ((N id).n - q - 1) (fun r => if q + 1 + r = q then A ++ (N' l).rows ++ B else rs (q + 1 + r)) = flat ((N id).n - q - 1) (fun r => rs (q + 1 + r)) := flat_congr fun r hr => if_neg (by omega)
        rw [f1] at e
        rw [f2, if_pos rfl] at e
        rw [hid, e] at this
        simpa [List.append_assoc] using this
/-- The way is there. -/
theorem Tr.path (N : Nat → Nd K C) (k : K) (f : Nat → Nat) (hf : ∀ id, 0 < (N id).n → Way lt (N id) k (f id)) {h id : Nat} {a b : Option K} {lf ids : List Nat} {rs : List (K × C)} (t : Tr lt N h id a b lf ids rs) : ∃ p, Path lt N k h id p := by
  induction t with
  | leaf h0 h1 h2 => exact ⟨_, .leaf⟩
  | @inner h id a b lf ids rs h0 hn h1 h2 hk ih =>
    obtain ⟨p, hp⟩ := ih (f id) (hf id hn).1
    exact ⟨_, .inner (hf id hn) hp⟩
/-- What hangs from a node's places, apart from the node. -/
structure Inn (lt : K → K → Prop) (N : Nat → Nd K C) (h : Nat) (a b : Option K) (n : Nat) (key : Nat → K) (kid : Nat → Nat) (lf ids : Nat → List Nat) (rs : Nat → List (K × C)) : Prop where
  pos : 0 < n
  bd : ∀ q, 0 < q → q < n → inR lt a b (key q)
  so : ∀ q r, 0 < q → q < r → r < n → lt (key q) (key r)
  tr : ∀ q, q < n → Tr lt N h (kid q) (if q = 0 then a else some (key q)) (if q + 1 < n then some (key (q + 1)) else b) (lf q) (ids q) (rs q)
section
variable {N N' : Nat → Nd K C} {h n : Nat} {a b : Option K} {key : Nat → K} {kid : Nat → Nat} {lf ids : Nat → List Nat} {rs : Nat → List (K × C)}
theorem Inn.node (i : Inn lt N h a b n key kid lf ids rs) {id : Nat} (h1 : (N id).lv = h + 1) (h2 : (N id).n = n) (h3 : ∀ q, 0 < q → q < n → (N id).key q = key q) (h4 : ∀ q, q < n → (N id).kid q = kid q) : Tr lt N (h + 1) id a b (flat n lf) (id :: flat n ids) (flat n rs) := by
  have := Tr.inner (lt := lt) (N := N) (h := h) (id := id) (a := a) (b := b) lf ids rs h1 (by rw [h2]; exact i.pos) (fun q hq hn => by rw [h2] at hn; rw [h3 q hq hn]; exact i.bd q hq hn) (fun q r hq hqr hr => by rw [h2] at hr; rw [h3 q hq (by omega), h3 r (by omega) hr]; exact i.so q r hq hqr hr) (fun q hq => by
    rw [h2] at hq
    have := i.tr q hq
    unfold Nd.lo Nd.hi
    rw [h4 q hq, h2]
    have e1 : (if q = 0 then a else some ((N id).key q)) = if q = 0 then a else some (key q) := by
      by_cases e : q = 0
      · rw [if_pos e, if_pos e]
      · rw [if_neg e, if_neg e, h3 q (by omega) hq]
    have e2 : (if q + 1 < n then some ((N id).key (q + 1)) else b) = if q + 1 < n then some (key (q + 1)) else b := by
      by_cases e : q + 1 < n
      · rw [if_pos e, if_pos e, h3 (q + 1) (by omega) e]
      · rw [if_neg e, if_neg e]
    rw [e1, e2]
    exact this)
  rw [h2] at this
  exact this
theorem Tr.inn {id : Nat} {lf ids : List Nat} {rs : List (K × C)} (t : Tr lt N (h + 1) id a b lf ids rs) : ∃ (lf' ids' : Nat → List Nat) (rs' : Nat → List (K × C)), lf = flat (N id).n lf' ∧ ids = id :: flat (N id).n ids' ∧ rs = flat (N id).n rs' ∧ (N id).lv = h + 1 ∧ Inn lt N h a b (N id).n (N id).key (N id).kid lf' ids' rs' := by
  cases t with
  | inner lf ids rs h0 hn h1 h2 hk => exact ⟨lf, ids, rs, rfl, rfl, rfl, h0, hn, h1, h2, hk⟩
theorem Inn.frame (i : Inn lt N h a b n key kid lf ids rs) (hs : ∀ q, q < n → ∀ x, x ∈ ids q → N' x = N x) : Inn lt N' h a b n key kid lf ids rs := ⟨i.pos, i.bd, i.so, fun q hq => (i.tr q hq).frame (hs q hq)⟩
def insF {α : Type} (f : Nat → α) (i : Nat) (x : α) (r : Nat) : α := if r < i then f r else if r = i then x else f (r - 1)
def insL {α : Type} (f : Nat → α) (q : Nat) (x y : α) (r : Nat) : α := if r = q then x else insF f (q + 1) y r
theorem insF_lt {α : Type} {f : Nat → α} {i : Nat} {x : α} {r : Nat} (h : r < i) : insF f i x r = f r := if_pos h
theorem insF_at {α : Type} (f : Nat → α) (i : Nat) (x : α) : insF f i x i = x := by unfold insF; rw [if_neg (Nat.lt_irrefl i), if_pos rfl]
theorem insF_gt {α : Type} {f : Nat → α} {i : Nat} {x : α} {r : Nat} (h : i < r) : insF f i x r = f (r - 1) := by unfold insF; rw [if_neg (by omega), if_neg (by omega)]
theorem insL_lt {α : Type} {f : Nat → α} {q : Nat} {x y : α} {r : Nat} (h : r < q) : insL f q x y r = f r := by unfold insL; rw [if_neg (by omega)]; exact insF_lt (by omega)
theorem insL_at {α : Type} (f : Nat → α) (q : Nat) (x y : α) : insL f q x y q = x := if_pos rfl
theorem insL_one {α : Type} (f : Nat → α) (q : Nat) (x y : α) : insL f q x y (q + 1) = y := by unfold insL; rw [if_neg (by omega)]; exact insF_at f (q + 1) y
theorem insL_gt {α : Type} {f : Nat → α} {q : Nat} {x y : α} {r : Nat} (h : q + 1 < r) : insL f q x y r = f (r - 1) := by unfold insL; rw [if_neg (by omega)]; exact insF_gt h
theorem flat_add {α : Type} (m k : Nat) (f : Nat → List α) : flat (m + k) f = flat m f ++ flat k (fun r => f (m + r)) := by
  induction k with
  | zero => simp [flat]
  | succ k ih => rw [show m + (k + 1) = (m + k) + 1 by omega, flat_succ, ih, flat_succ, List.append_assoc]
theorem flat_insL {α : Type} (n : Nat) (f : Nat → List α) (q : Nat) (hq : q < n) (x y : List α) : flat (n + 1) (insL f q x y) = flat q f ++ x ++ y ++ flat (n - q - 1) (fun r => f (q + 1 + r)) := by
  rw [show n + 1 = q + (1 + (1 + (n - q - 1))) by omega, flat_add q, flat_add 1, flat_add 1]
  have e1 : flat q (insL f q x y) = flat q f := flat_congr fun r hr => by unfold insL; rw [if_neg (by omega), insF_lt (by omega)]
  have e2 : flat 1 (fun r => insL f q x y (q + r)) = x := by rw [flat_succ]; simp [flat, insL]
  have e3 : flat 1 (fun r => insL f q x y (q + (1 + r))) = y := by
    rw [flat_succ]
    have : insL f q x y (q + (1 + 0)) = y := by unfold insL; rw [if_neg (by omega)]; exact insF_at f (q + 1) y
    rw [this]; simp [flat]
  have e4 : flat (n - q - 1) (fun r => insL f q x y (q + (1 + (1 + r)))) = flat (n - q - 1) (fun r => f (q + 1 + r)) := flat_congr fun r hr => by
    unfold insL
    rw [if_neg (by omega), insF_gt (by omega)]
    congr 1
    omega
  rw [e1, e2, e3, e4]
  simp [List.append_assoc]
/-- A place's tree becomes two, side by side, with a key between them. -/
theorem Inn.ins' (ip : 0 < n) (ibd : ∀ q, 0 < q → q < n → inR lt a b (key q)) (iso : ∀ q r, 0 < q → q < r → r < n → lt (key q) (key r)) {q : Nat} (itr : ∀ r, r < n → r ≠ q → Tr lt N h (kid r) (if r = 0 then a else some (key r)) (if r + 1 < n then some (key (r + 1)) else b) (lf r) (ids r) (rs r)) (hq : q < n) {s : K} {id2 : Nat} {l1 l2 i1 i2 : List Nat} {r1 r2 : List (K × C)} (hs : inR lt a b s) (h1 : 0 < q → lt (key q) s) (h2 : q + 1 < n → lt s (key (q + 1))) (o : Ord lt)
    (t1 : Tr lt N h (kid q) (if q = 0 then a else some (key q)) (some s) l1 i1 r1) (t2 : Tr lt N h id2 (some s) (if q + 1 < n then some (key (q + 1)) else b) l2 i2 r2) :
    Inn lt N h a b (n + 1) (insF key (q + 1) s) (insF kid (q + 1) id2) (insL lf q l1 l2) (insL ids q i1 i2) (insL rs q r1 r2) where
  pos := Nat.succ_pos n
  bd := fun r hr hn => by
    rcases Nat.lt_trichotomy r (q + 1) with e | e | e
    · rw [insF_lt e]; exact ibd r hr (by omega)
    · rw [e, insF_at]; exact hs
    · rw [insF_gt e]; exact ibd (r - 1) (by omega) (by omega)
  so := fun r u hr hru hu => by
    have up : ∀ r, 0 < r → r ≤ q → lt (key r) s := fun r h0 hle => by
      rcases Nat.lt_or_ge r q with e | e
      · exact o.tr _ _ _ (iso r q h0 e hq) (h1 (by omega))
      · have : r = q := by omega
        rw [this]; exact h1 (by omega)
    have dn : ∀ u, q < u → u < n → lt s (key u) := fun u h0 hu => by
      rcases Nat.lt_or_ge (q + 1) u with e | e
      · exact o.tr _ _ _ (h2 (by omega)) (iso (q + 1) u (by omega) e hu)
      · have : u = q + 1 := by omega
        rw [this]; exact h2 (by omega)
    rcases Nat.lt_trichotomy r (q + 1) with e | e | e
    · rw [insF_lt e]
      rcases Nat.lt_trichotomy u (q + 1) with e2 | e2 | e2
      · rw [insF_lt e2]; exact iso r u hr hru (by omega)
      · rw [e2, insF_at]; exact up r hr (by omega)
      · rw [insF_gt e2]
        rcases Nat.lt_or_ge r (u - 1) with e3 | e3
        · exact iso r (u - 1) hr e3 (by omega)
        · omega
    · rw [e, insF_at, insF_gt (by omega)]; exact dn (u - 1) (by omega) (by omega)
    · rw [insF_gt e, insF_gt (by omega)]; exact iso (r - 1) (u - 1) (by omega) (by omega) (by omega)
  tr := fun r hr => by
    rcases Nat.lt_trichotomy r q with e | e | e
    · have := itr r (by omega) (by omega)
      have e1 : (if r + 1 < n + 1 then some (insF key (q + 1) s (r + 1)) else b) = if r + 1 < n then some (key (r + 1)) else b := by rw [if_pos (by omega), if_pos (by omega), insF_lt (by omega)]
      rw [insL_lt e, insL_lt e, insL_lt e, insF_lt (show r < q + 1 by omega), insF_lt (show r < q + 1 by omega), e1]
      exact this
    · subst e
      have e1 : (if r + 1 < n + 1 then some (insF key (r + 1) s (r + 1)) else b) = some s := by rw [if_pos (by omega), insF_at]
      rw [insL_at, insL_at, insL_at, insF_lt (show r < r + 1 by omega), insF_lt (show r < r + 1 by omega), e1]
      exact t1
    · rcases Nat.lt_or_ge (q + 1) r with e2 | e2
      · have := itr (r - 1) (by omega) (by omega)
        rw [show r - 1 + 1 = r by omega] at this
        have e0 : (if r = 0 then a else some (key (r - 1))) = if r - 1 = 0 then a else some (key (r - 1)) := by rw [if_neg (by omega), if_neg (by omega)]
        have e1 : (if r + 1 < n + 1 then some (insF key (q + 1) s (r + 1)) else b) = if r < n then some (key r) else b := by
          rw [insF_gt (by omega), show r + 1 - 1 = r by omega]
          by_cases e4 : r < n
          · rw [if_pos (by omega), if_pos e4]
          · rw [if_neg (by omega), if_neg e4]
        rw [insL_gt e2, insL_gt e2, insL_gt e2, insF_gt e2, insF_gt e2, e1, e0]
        exact this
      · have e3 : r = q + 1 := by omega
        subst e3
        have e0 : (if q + 1 = 0 then a else some (insF key (q + 1) s (q + 1))) = some s := by rw [if_neg (by omega), insF_at]
        have e1 : (if q + 1 + 1 < n + 1 then some (insF key (q + 1) s (q + 1 + 1)) else b) = if q + 1 < n then some (key (q + 1)) else b := by
          rw [insF_gt (by omega), show q + 1 + 1 - 1 = q + 1 by omega]
          by_cases e4 : q + 1 < n
          · rw [if_pos (by omega), if_pos e4]
          · rw [if_neg (by omega), if_neg e4]
        rw [insL_one, insL_one, insL_one, e0, e1, insF_at]
        exact t2
/-- A node's left part, and its right part. -/
theorem Inn.low (i : Inn lt N h a b n key kid lf ids rs) {m : Nat} (hm : 0 < m) (hn : m < n) (o : Ord lt) : Inn lt N h a (some (key m)) m key kid lf ids rs where
  pos := hm
  bd := fun q hq hqm => ⟨(i.bd q hq (by omega)).1, fun x hx => by injection hx with hx; rw [← hx]; exact i.so q m hq hqm hn⟩
  so := fun q r hq hqr hr => i.so q r hq hqr (by omega)
  tr := fun q hq => by
    have := i.tr q (by omega)
    rw [if_pos (show q + 1 < n by omega)] at this
    by_cases e : q + 1 < m
    · rw [if_pos e]; exact this
    · rw [if_neg e, show m = q + 1 by omega]; exact this
theorem Inn.high (i : Inn lt N h a b n key kid lf ids rs) {m : Nat} (hm : 0 < m) (hn : m < n) (o : Ord lt) : Inn lt N h (some (key m)) b (n - m) (fun r => key (m + r)) (fun r => kid (m + r)) (fun r => lf (m + r)) (fun r => ids (m + r)) (fun r => rs (m + r)) where
  pos := by omega
  bd := fun q hq hqm => ⟨fun x hx hlt => by
    injection hx with hx
    rw [← hx] at hlt
    exact o.irr _ (o.tr _ _ _ hlt (i.so m (m + q) hm (by omega) (by omega))), (i.bd (m + q) (by omega) (by omega)).2⟩
  so := fun q r hq hqr hr => i.so (m + q) (m + r) (by omega) (by omega) (by omega)
  tr := fun q hq => by
    have := i.tr (m + q) (by omega)
    rw [if_neg (by omega)] at this
    have e1 : (if q = 0 then some (key m) else some (key (m + q))) = some (key (m + q)) := by
      by_cases e : q = 0
      · subst e; rfl
      · rw [if_neg e]
    have e2 : (if q + 1 < n - m then some (key (m + (q + 1))) else b) = if m + q + 1 < n then some (key (m + q + 1)) else b := by
      by_cases e : q + 1 < n - m
      · rw [if_pos e, if_pos (by omega)]; rfl
      · rw [if_neg e, if_neg (by omega)]
    rw [e1, e2]
    exact this
end
/-- A leaf's keys. -/
structure Lf (lt : K → K → Prop) (a b : Option K) (n : Nat) (key : Nat → K) : Prop where
  bd : ∀ q, q < n → inR lt a b (key q)
  so : ∀ q r, q < r → r < n → lt (key q) (key r)
def rowsF (n : Nat) (key : Nat → K) (cell : Nat → C) : List (K × C) := (List.range n).map fun q => (key q, cell q)
section
variable {N : Nat → Nd K C} {n : Nat} {a b : Option K} {key : Nat → K} {cell : Nat → C}
theorem rowsF_flat (n : Nat) (key : Nat → K) (cell : Nat → C) : rowsF n key cell = flat n fun q => [(key q, cell q)] := by
  unfold rowsF flat
  induction n with
  | zero => rfl
  | succ n ih => rw [List.range_succ, List.map_append, List.flatMap_append, ih]; simp
theorem Lf.node (i : Lf lt a b n key) {id : Nat} (h1 : (N id).lv = 0) (h2 : (N id).n = n) (h3 : ∀ q, q < n → (N id).key q = key q) (h4 : ∀ q, q < n → (N id).cell q = cell q) : Tr lt N 0 id a b [id] [id] (rowsF n key cell) := by
  have := Tr.leaf (lt := lt) (N := N) (id := id) (a := a) (b := b) h1 (fun q hq => by rw [h2] at hq; rw [h3 q hq]; exact i.bd q hq) (fun q r hqr hr => by rw [h2] at hr; rw [h3 q (by omega), h3 r hr]; exact i.so q r hqr hr)
  have e : (N id).rows = rowsF n key cell := by
    unfold Nd.rows rowsF
    rw [h2]
    refine List.map_congr_left fun q hq => ?_
    rw [h3 q (List.mem_range.1 hq), h4 q (List.mem_range.1 hq)]
  rw [e] at this
  exact this
theorem Tr.lf {id : Nat} {lf ids : List Nat} {rs : List (K × C)} (t : Tr lt N 0 id a b lf ids rs) : lf = [id] ∧ ids = [id] ∧ rs = (N id).rows ∧ (N id).lv = 0 ∧ Lf lt a b (N id).n (N id).key := by
  cases t with
  | leaf h0 h1 h2 => exact ⟨rfl, rfl, rfl, h0, h1, h2⟩
/-- A key more, at its place. -/
theorem Lf.ins (i : Lf lt a b n key) {q : Nat} (hq : q ≤ n) {k : K} (hk : inR lt a b k) (h1 : ∀ r, r < q → lt (key r) k) (h2 : ∀ r, q ≤ r → r < n → lt k (key r)) : Lf lt a b (n + 1) (insF key q k) where
  bd := fun r hr => by
    rcases Nat.lt_trichotomy r q with e | e | e
    · rw [insF_lt e]; exact i.bd r (by omega)
    · rw [e, insF_at]; exact hk
    · rw [insF_gt e]; exact i.bd (r - 1) (by omega)
  so := fun r u hru hu => by
    rcases Nat.lt_trichotomy r q with e | e | e
    · rw [insF_lt e]
      rcases Nat.lt_trichotomy u q with e2 | e2 | e2
      · rw [insF_lt e2]; exact i.so r u hru (by omega)
      · rw [e2, insF_at]; exact h1 r e
      · rw [insF_gt e2]; exact i.so r (u - 1) (by omega) (by omega)
    · rw [e, insF_at, insF_gt (by omega)]; exact h2 (u - 1) (by omega) (by omega)
    · rw [insF_gt e, insF_gt (by omega)]; exact i.so (r - 1) (u - 1) (by omega) (by omega)
theorem rowsF_ins {q : Nat} (hq : q ≤ n) (k : K) (c : C) : rowsF (n + 1) (insF key q k) (insF cell q c) = rowsF q key cell ++ [(k, c)] ++ rowsF (n - q) (fun r => key (q + r)) (fun r => cell (q + r)) := by
  rw [rowsF_flat, rowsF_flat, rowsF_flat, show n + 1 = q + (1 + (n - q)) by omega, flat_add q, flat_add 1]
  have e1 : flat q (fun r => [(insF key q k r, insF cell q c r)]) = flat q fun r => [(key r, cell r)] := flat_congr fun r hr => by rw [insF_lt hr, insF_lt hr]
  have e2 : flat 1 (fun r => [(insF key q k (q + r), insF cell q c (q + r))]) = [(k, c)] := by rw [flat_succ, Nat.add_zero, insF_at, insF_at]; rfl
  have e3 : flat (n - q) (fun r => [(insF key q k (q + (1 + r)), insF cell q c (q + (1 + r)))]) = flat (n - q) fun r => [(key (q + r), cell (q + r))] := flat_congr fun r hr => by
    rw [insF_gt (by omega), insF_gt (by omega), show q + (1 + r) - 1 = q + r by omega]
  rw [e1, e2, e3]
  simp [List.append_assoc]
theorem rowsF_add (m k : Nat) (key : Nat → K) (cell : Nat → C) : rowsF (m + k) key cell = rowsF m key cell ++ rowsF k (fun r => key (m + r)) (fun r => cell (m + r)) := by
  rw [rowsF_flat, rowsF_flat, rowsF_flat, flat_add]
/-- A leaf's left part, and its right part. -/
theorem Lf.low (i : Lf lt a b n key) {m : Nat} (hn : m < n) : Lf lt a (some (key m)) m key where
  bd := fun q hq => ⟨(i.bd q (by omega)).1, fun x hx => by injection hx with hx; rw [← hx]; exact i.so q m hq hn⟩
  so := fun q r hqr hr => i.so q r hqr (by omega)
theorem Lf.high (o : Ord lt) (i : Lf lt a b n key) {m : Nat} (hn : m < n) : Lf lt (some (key m)) b (n - m) (fun r => key (m + r)) where
  bd := fun q hq => ⟨fun x hx hlt => by
    injection hx with hx
    rw [← hx] at hlt
    by_cases e : q = 0
    · subst e; exact o.irr _ hlt
    · exact o.irr _ (o.tr _ _ _ hlt (i.so m (m + q) (by omega) (by omega))), (i.bd (m + q) (by omega)).2⟩
  so := fun q r hqr hr => i.so (m + q) (m + r) (by omega) (by omega)
end
/-- The way down from a node to another one, some levels below. -/
inductive Down (lt : K → K → Prop) (N : Nat → Nd K C) (k : K) (h x : Nat) : Nat → Nat → Prop
  | here : Down lt N k h x h x
  | step {h' id q : Nat} (hw : Way lt (N id) k q) (hd : Down lt N k h x h' ((N id).kid q)) : Down lt N k h x (h' + 1) id
/-- What hangs from a node on the way of a key may be replaced by anything else within its bounds. -/
theorem Tr.sub (o : Ord lt) {N : Nat → Nd K C} {k : K} {h x H id : Nat} (hd : Down lt N k h x H id) : ∀ {a b : Option K} {lf ids : List Nat} {rs : List (K × C)}, Tr lt N H id a b lf ids rs → inR lt a b k →
    ∃ (a' b' : Option K) (A B : List (K × C)) (u v P Q lfx idx : List Nat) (rsx : List (K × C)), Tr lt N h x a' b' lfx idx rsx ∧ inR lt a' b' k ∧ rs = A ++ rsx ++ B ∧ lf = u ++ lfx ++ v ∧ ids = P ++ idx ++ Q ∧ (∀ y, y ∈ A → lt y.1 k) ∧ (∀ y, y ∈ B → lt k y.1) ∧
      (∀ (N' : Nat → Nd K C) (lfn idn : List Nat) (rsn : List (K × C)), (∀ i, i ∈ P ∨ i ∈ Q → N' i = N i) → Tr lt N' h x a' b' lfn idn rsn → Tr lt N' H id a b (u ++ lfn ++ v) (P ++ idn ++ Q) (A ++ rsn ++ B)) := by
  induction hd with
  | here =>
    intro a b lf ids rs t hk
    exact ⟨a, b, [], [], [], [], [], [], lf, ids, rs, t, hk, by simp, by simp, by simp, fun y hy => (by cases hy), fun y hy => (by cases hy), fun N' lfn idn rsn _ h => by simpa using h⟩
  | @step h' id q hw hd ih =>
    intro a b lf ids rs t hk
    cases t with
    | inner lf ids rs h0 hn h1 h2 hkk =>
      have hq := hw.1
      obtain ⟨a', b', A, B, u, v, P, Q, lfx, idx, rsx, e1, e2, e3, e4, e5, e6, e7, e8⟩ := ih (hkk q hq) (hw.inR hk)
      have mkA : ∀ r, r < q → ∀ y, y ∈ rs r → lt y.1 k := fun r hr y hy => kid_lt o h2 hr hq ((hkk r (by omega)).range o y hy) (hw.inR hk)
      have mkB : ∀ r, q < r → r < (N id).n → ∀ y, y ∈ rs r → lt k y.1 := fun r hr hrn y hy => kid_lt o h2 hr hrn (hw.inR hk) ((hkk r hrn).range o y hy)
      refine ⟨a', b', flat q rs ++ A, B ++ flat ((N id).n - q - 1) (fun r => rs (q + 1 + r)), flat q lf ++ u, v ++ flat ((N id).n - q - 1) (fun r => lf (q + 1 + r)), id :: (flat q ids ++ P), Q ++ flat ((N id).n - q - 1) (fun r => ids (q + 1 + r)), lfx, idx, rsx, e1, e2, ?_, ?_, ?_, ?_, ?_, ?_⟩
      · rw [flat_split _ rs q hq, e3]; simp [List.append_assoc]
      · rw [flat_split _ lf q hq, e4]; simp [List.append_assoc]
      · rw [flat_split _ ids q hq, e5]; simp [List.append_assoc]
      · intro y hy
        rcases List.mem_append.1 hy with hy | hy
        · obtain ⟨r, hr, hy⟩ := flat_mem.1 hy
          exact mkA r hr y hy
        · exact e6 y hy
      · intro y hy
        rcases List.mem_append.1 hy with hy | hy
        · exact e7 y hy
        · obtain ⟨r, hr, hy⟩ := flat_mem.1 hy
          exact mkB (q + 1 + r) (by omega) (by omega) y hy
      · intro N' lfn idn rsn hN hx
        have hid : N' id = N id := hN id (.inl (by simp))
        have hq2 := e8 N' lfn idn rsn (fun i hi => hN i (by
          rcases hi with hi | hi
          · exact .inl (by simp [hi])
          · exact .inr (by simp [hi]))) hx
        have inn : Inn lt N h' a b (N id).n (N id).key (N id).kid lf ids rs := ⟨hn, h1, h2, hkk⟩
        have res : Inn lt N' h' a b (N id).n (N id).key (N id).kid (fun r => if r = q then u ++ lfn ++ v else lf r) (fun r => if r = q then P ++ idn ++ Q else ids r) (fun r => if r = q then A ++ rsn ++ B else rs r) := ⟨hn, h1, h2, fun r hr => by
          by_cases e : r = q
          · subst e
            rw [if_pos rfl, if_pos rfl, if_pos rfl]
            exact hq2
          · rw [if_neg e, if_neg e, if_neg e]
            refine (inn.tr r hr).frame fun i hi => hN i ?_
            rcases Nat.lt_or_gt_of_ne e with h5 | h5
            · exact .inl (List.mem_cons_of_mem _ (List.mem_append_left _ (flat_mem.2 ⟨r, h5, hi⟩)))
            · exact .inr (List.mem_append_right _ (flat_mem.2 ⟨r - q - 1, by omega, by rw [show q + 1 + (r - q - 1) = r by omega]; exact hi⟩))⟩
        have := res.node (id := id) (by rw [hid]; exact h0) (by rw [hid]) (fun r _ _ => by rw [hid]) (fun r _ => by rw [hid])
        have sp : ∀ {α : Type} (f : Nat → List α) (y : List α), flat (N id).n (fun r => if r = q then y else f r) = flat q f ++ y ++ flat ((N id).n - q - 1) (fun r => f (q + 1 + r)) := by
          intro α f y
          have e := flat_split (N id).n (fun r => if r = q then y else f r) q hq
          have f1 : flat q (fun r => if r = q then y else f r) = flat q f := flat_congr fun r hr => if_neg (by omega)
          have f2 : flat ((N id).n - q - 1) (fun r => if q + 1 + r = q then y else f (q + 1 + r)) = flat ((N id).n - q - 1) (fun r => f (q + 1 + r)) := flat_congr fun r hr => if_neg (by omega)
          rw [f1, f2, if_pos rfl] at e
          exact e
        rw [sp, sp, sp] at this
        simpa [List.append_assoc] using this
theorem flat_flatMap {α β : Type} (n : Nat) (f : Nat → List α) (g : α → List β) : (flat n f).flatMap g = flat n fun q => (f q).flatMap g := by
  induction n with
  | zero => rfl
  | succ n ih => rw [flat_succ, flat_succ, List.flatMap_append, ih]
/-- The rows are the leaves', from the left to the right. -/
theorem Tr.leaves {N : Nat → Nd K C} {h id : Nat} {a b : Option K} {lf ids : List Nat} {rs : List (K × C)} (t : Tr lt N h id a b lf ids rs) : rs = lf.flatMap (fun i => (N i).rows) ∧ lf ≠ [] ∧ ∀ i, i ∈ lf → i ∈ ids ∧ (N i).lv = 0 := by
  induction t with
  | @leaf id a b h0 h1 h2 => exact ⟨by simp, by simp, fun i hi => by rw [List.mem_singleton] at hi; subst hi; exact ⟨by simp, h0⟩⟩
  | @inner h id a b lf ids rs h0 hn h1 h2 hk ih =>
    refine ⟨?_, fun e => ?_, fun i hi => ?_⟩
    · rw [flat_flatMap]
      exact flat_congr fun q hq => (ih q hq).1
    · have h3 := (ih 0 hn).2.1
      cases h4 : lf 0 with
      | nil => exact h3 h4
      | cons y l =>
        have : y ∈ flat (N id).n lf := flat_mem.2 ⟨0, hn, by rw [h4]; simp⟩
        rw [e] at this
        cases this
    · obtain ⟨q, hq, hi⟩ := flat_mem.1 hi
      obtain ⟨h3, h4⟩ := (ih q hq).2.2 i hi
      exact ⟨List.mem_cons_of_mem _ (flat_mem.2 ⟨q, hq, h3⟩), h4⟩
/-- The node itself is of them. -/
theorem Tr.self {N : Nat → Nd K C} {h id : Nat} {a b : Option K} {lf ids : List Nat} {rs : List (K × C)} (t : Tr lt N h id a b lf ids rs) : id ∈ ids ∧ (N id).lv = h := by
  cases t with
  | leaf h0 h1 h2 => exact ⟨by simp, h0⟩
  | inner lf ids rs h0 hn h1 h2 hk => exact ⟨by simp, h0⟩
/-- Leaves that are chained. -/
def Chn (nx : Nat → Nat) : List Nat → Prop
  | [] => True
  | [x] => nx x = 0
  | x :: y :: l => nx x = y ∧ Chn nx (y :: l)
theorem Chn.tail {nx : Nat → Nat} {x : Nat} {l : List Nat} (h : Chn nx (x :: l)) : Chn nx l := by
  cases l with
  | nil => trivial
  | cons y l => exact h.2
theorem Chn.next {nx : Nat → Nat} {x : Nat} {l : List Nat} (h : Chn nx (x :: l)) : nx x = l.headD 0 := by
  cases l with
  | nil => exact h
  | cons y l => exact h.1
theorem Chn.mk {nx : Nat → Nat} {x : Nat} {l : List Nat} (h1 : nx x = l.headD 0) (h2 : Chn nx l) : Chn nx (x :: l) := by
  cases l with
  | nil => exact h1
  | cons y l => exact ⟨h1, h2⟩
theorem Chn.drop {nx : Nat → Nat} : ∀ (u : List Nat) {v : List Nat}, Chn nx (u ++ v) → Chn nx v
  | [], v, h => h
  | x :: u, v, h => Chn.drop u (by simpa using h.tail)
theorem Chn.same {nx nx' : Nat → Nat} : ∀ {l : List Nat}, Chn nx l → (∀ i, i ∈ l → nx' i = nx i) → Chn nx' l
  | [], _, _ => trivial
  | x :: l, h, hs => .mk ((hs x List.mem_cons_self).trans h.next) (Chn.same h.tail fun i hi => hs i (List.mem_cons_of_mem _ hi))
/-- A leaf becomes two. -/
theorem Chn.two {nx nx' : Nat → Nat} {l l2 : Nat} {v : List Nat} : ∀ (u : List Nat), Chn nx (u ++ l :: v) → (∀ i, i ∈ u ∨ i ∈ v → nx' i = nx i) → nx' l = l2 → nx' l2 = nx l → Chn nx' (u ++ l :: l2 :: v)
  | [], h, hs, h1, h2 => .mk h1 (.mk (h2.trans (Chn.next h)) ((Chn.tail h).same fun i hi => hs i (.inr hi)))
  | x :: u, h, hs, h1, h2 => by
    have h' : Chn nx (x :: (u ++ l :: v)) := h
    refine Chn.mk (l := u ++ l :: l2 :: v) ?_ (Chn.two u h'.tail (fun i hi => hs i (by rcases hi with hi | hi; exact .inl (List.mem_cons_of_mem _ hi); exact .inr hi)) h1 h2)
    rw [hs x (.inl List.mem_cons_self), h'.next]
    cases u with
    | nil => rfl
    | cons y u => rfl
/-- Two trees side by side hang from one node. -/
theorem Inn.pair {N : Nat → Nd K C} {h l r : Nat} {a b : Option K} {s k0 : K} {l1 l2 i1 i2 : List Nat} {r1 r2 : List (K × C)} (hs : inR lt a b s) (t1 : Tr lt N h l a (some s) l1 i1 r1) (t2 : Tr lt N h r (some s) b l2 i2 r2) :
    Inn lt N h a b 2 (fun q => if q = 0 then k0 else s) (fun q => if q = 0 then l else r) (fun q => if q = 0 then l1 else l2) (fun q => if q = 0 then i1 else i2) (fun q => if q = 0 then r1 else r2) where
  pos := by omega
  bd := fun q hq h2 => by rw [if_neg (by omega)]; exact hs
  so := fun q r hq hqr hr => by omega
  tr := fun q hq => by
    rcases (show q = 0 ∨ q = 1 by omega) with rfl | rfl
    · exact t1
    · exact t2
theorem flat_two {α : Type} (x y : List α) : flat 2 (fun q => if q = 0 then x else y) = x ++ y := by
  rw [show (2 : Nat) = 1 + 1 from rfl, flat_succ, show (1 : Nat) = 0 + 1 from rfl, flat_succ]
  simp [flat]
/-- A node over a place whose tree has become two: what hangs from the node with a place more. -/
theorem Tr.push (o : Ord lt) {N : Nat → Nd K C} {k : K} {h y q : Nat} {a b : Option K} {lf ids : List Nat} {rs : List (K × C)} (t : Tr lt N (h + 1) y a b lf ids rs) (hk : inR lt a b k) (hw : Way lt (N y) k q) :
    ∃ (lA lB iA iB lfx idx : List Nat) (rA rB rsx : List (K × C)), Tr lt N h ((N y).kid q) ((N y).lo a q) ((N y).hi b q) lfx idx rsx ∧ inR lt ((N y).lo a q) ((N y).hi b q) k ∧ lf = lA ++ lfx ++ lB ∧ ids = y :: (iA ++ idx ++ iB) ∧ rs = rA ++ rsx ++ rB ∧ (∀ x, x ∈ rA → lt x.1 k) ∧ (∀ x, x ∈ rB → lt k x.1) ∧
      (∀ (N' : Nat → Nd K C) (ln idn : List Nat) (rn : List (K × C)), (∀ i, i ∈ iA ∨ i ∈ iB ∨ i = y → N' i = N i) → Tr lt N' h ((N y).kid q) ((N y).lo a q) ((N y).hi b q) ln idn rn → Tr lt N' (h + 1) y a b (lA ++ ln ++ lB) (y :: (iA ++ idn ++ iB)) (rA ++ rn ++ rB)) ∧
      (∀ (N' : Nat → Nd K C) (s : K) (id2 : Nat) (l1 i1 l2 i2 : List Nat) (r1 r2 : List (K × C)), (∀ i, i ∈ iA ∨ i ∈ iB → N' i = N i) → inR lt ((N y).lo a q) ((N y).hi b q) s → (0 < q → lt ((N y).key q) s) →
        Tr lt N' h ((N y).kid q) ((N y).lo a q) (some s) l1 i1 r1 → Tr lt N' h id2 (some s) ((N y).hi b q) l2 i2 r2 →
        ∃ (lf' ids' : Nat → List Nat) (rs' : Nat → List (K × C)), Inn lt N' h a b ((N y).n + 1) (insF (N y).key (q + 1) s) (insF (N y).kid (q + 1) id2) lf' ids' rs' ∧ inR lt a b s ∧
          flat ((N y).n + 1) lf' = lA ++ l1 ++ l2 ++ lB ∧ flat ((N y).n + 1) ids' = iA ++ i1 ++ i2 ++ iB ∧ flat ((N y).n + 1) rs' = rA ++ r1 ++ r2 ++ rB) := by
  obtain ⟨lf, ids, rs, rfl, rfl, rfl, h0, inn⟩ := t.inn
  have hq := hw.1
  have tq : ∀ r, r < (N y).n → Tr lt N h ((N y).kid r) ((N y).lo a r) ((N y).hi b r) (lf r) (ids r) (rs r) := inn.tr
  have h2 := inn.so
  refine ⟨flat q lf, flat ((N y).n - q - 1) (fun r => lf (q + 1 + r)), flat q ids, flat ((N y).n - q - 1) (fun r => ids (q + 1 + r)), lf q, ids q, flat q rs, flat ((N y).n - q - 1) (fun r => rs (q + 1 + r)), rs q, tq q hq, hw.inR hk, flat_split _ lf q hq, by rw [flat_split _ ids q hq], flat_split _ rs q hq, ?_, ?_, ?_, ?_⟩
  · intro x hx
    obtain ⟨r, hr, hx⟩ := flat_mem.1 hx
    exact kid_lt o h2 hr hq ((tq r (by omega)).range o x hx) (hw.inR hk)
  · intro x hx
    obtain ⟨r, hr, hx⟩ := flat_mem.1 hx
    exact kid_lt o h2 (show q < q + 1 + r by omega) (by omega) (hw.inR hk) ((tq (q + 1 + r) (by omega)).range o x hx)
  · intro N' ln idn rn hN hx
    have hid : N' y = N y := hN y (.inr (.inr rfl))
    have sp : ∀ {α : Type} (f : Nat → List α) (z : List α), flat (N y).n (fun r => if r = q then z else f r) = flat q f ++ z ++ flat ((N y).n - q - 1) (fun r => f (q + 1 + r)) := by
      intro α f z
      have e := flat_split (N y).n (fun r => if r = q then z else f r) q hq
      have f1 : flat q (fun r => if r = q then z else f r) = flat q f := flat_congr fun r hr => if_neg (by omega)
      have f2 : flat ((N y).n - q - 1) (fun r => if q + 1 + r = q then z else f (q + 1 + r)) = flat ((N y).n - q - 1) (fun r => f (q + 1 + r)) := flat_congr fun r hr => if_neg (by omega)
      rw [f1, f2, if_pos rfl] at e
      exact e
    have res : Inn lt N' h a b (N y).n (N y).key (N y).kid (fun r => if r = q then ln else lf r) (fun r => if r = q then idn else ids r) (fun r => if r = q then rn else rs r) := ⟨inn.pos, inn.bd, inn.so, fun r hr => by
      by_cases e : r = q
      · subst e
        rw [if_pos rfl, if_pos rfl, if_pos rfl]
        exact hx
      · rw [if_neg e, if_neg e, if_neg e]
        refine (inn.tr r hr).frame fun i hi => hN i ?_
        rcases Nat.lt_or_gt_of_ne e with h5 | h5
        · exact .inl (flat_mem.2 ⟨r, h5, hi⟩)
        · exact .inr (.inl (flat_mem.2 ⟨r - q - 1, by omega, by rw [show q + 1 + (r - q - 1) = r by omega]; exact hi⟩))⟩
    have := res.node (id := y) (by rw [hid]; exact h0) (by rw [hid]) (fun r _ _ => by rw [hid]) (fun r _ => by rw [hid])
    rw [sp, sp, sp] at this
    exact this
  · intro N' s id2 l1 i1 l2 i2 r1 r2 hN hs h1 t1 t2
    have hsa : inR lt a b s := inR_lo o inn.bd hq hs
    have hs2 : q + 1 < (N y).n → lt s ((N y).key (q + 1)) := fun h3 => by
      have := hs.2
      unfold Nd.hi at this
      rw [if_pos h3] at this
      exact this _ rfl
    -- the other places' trees, as they were
    have oth : ∀ r, r < (N y).n → r ≠ q → Tr lt N' h ((N y).kid r) (if r = 0 then a else some ((N y).key r)) (if r + 1 < (N y).n then some ((N y).key (r + 1)) else b) (lf r) (ids r) (rs r) := fun r hr hne =>
      (inn.tr r hr).frame fun i hi => hN i (by
        rcases Nat.lt_or_gt_of_ne hne with h5 | h5
        · exact .inl (flat_mem.2 ⟨r, h5, hi⟩)
        · exact .inr (flat_mem.2 ⟨r - q - 1, by omega, by rw [show q + 1 + (r - q - 1) = r by omega]; exact hi⟩))
    exact ⟨_, _, _, Inn.ins' inn.pos inn.bd inn.so oth hq hsa h1 hs2 o t1 t2, hsa, flat_insL _ lf q hq l1 l2, flat_insL _ ids q hq i1 i2, flat_insL _ rs q hq r1 r2⟩
/-- Rows in order that are of the same members are the same. -/
theorem rows_ext (o : Ord lt) : ∀ {l m : List (K × C)}, l.Pairwise (fun x y => lt x.1 y.1) → m.Pairwise (fun x y => lt x.1 y.1) → (∀ x, x ∈ l ↔ x ∈ m) → l = m
  | [], [], _, _, _ => rfl
  | [], y :: m, _, _, h => absurd ((h y).2 List.mem_cons_self) List.not_mem_nil
  | x :: l, [], _, _, h => absurd ((h x).1 List.mem_cons_self) List.not_mem_nil
  | x :: l, y :: m, h1, h2, h => by
    rw [List.pairwise_cons] at h1 h2
    have e : x = y := by
      rcases List.mem_cons.1 ((h x).1 List.mem_cons_self) with e | hx
      · exact e
      rcases List.mem_cons.1 ((h y).2 List.mem_cons_self) with e | hy
      · exact e.symm
      · exact absurd (o.tr _ _ _ (h2.1 x hx) (h1.1 y hy)) (o.irr _)
    subst e
    have ih := rows_ext o h1.2 h2.2 fun z => by
      constructor
      · intro hz
        rcases List.mem_cons.1 ((h z).1 (List.mem_cons_of_mem _ hz)) with e | hz2
        · subst e; exact absurd (h1.1 z hz) (o.irr _)
        · exact hz2
      · intro hz
        rcases List.mem_cons.1 ((h z).2 (List.mem_cons_of_mem _ hz)) with e | hz2
        · subst e; exact absurd (h2.1 z hz) (o.irr _)
        · exact hz2
    rw [ih]
/-- A key stands once. -/
theorem rows_one (o : Ord lt) {l : List (K × C)} (h : l.Pairwise fun x y => lt x.1 y.1) {k : K} {c d : C} (h1 : (k, c) ∈ l) (h2 : (k, d) ∈ l) : c = d := by
  induction l with
  | nil => cases h1
  | cons x l ih =>
    rw [List.pairwise_cons] at h
    rcases List.mem_cons.1 h1 with e1 | e1
    · rcases List.mem_cons.1 h2 with e2 | e2
      · rw [← e1] at e2; injection e2 with _ e2; exact e2.symm
      · have := h.1 _ e2
        rw [← e1] at this
        exact absurd this (o.irr _)
    · rcases List.mem_cons.1 h2 with e2 | e2
      · have := h.1 _ e1
        rw [← e2] at this
        exact absurd this (o.irr _)
      · exact ih h.2 e1 e2
theorem rowsF_mem {n : Nat} {key : Nat → K} {cell : Nat → C} {x : K × C} : x ∈ rowsF n key cell ↔ ∃ q, q < n ∧ x = (key q, cell q) := by
  unfold rowsF
  rw [List.mem_map]
  constructor
  · rintro ⟨q, h1, h2⟩; exact ⟨q, List.mem_range.1 h1, h2.symm⟩
  · rintro ⟨q, h1, h2⟩; exact ⟨q, List.mem_range.2 h1, h2.symm⟩
/-- What stands from a key on: behind the leaf's first cell that is not below it, and in the leaves behind. -/
theorem rows_from (o : Ord lt) {A B : List (K × C)} {n i : Nat} {key : Nat → K} {cell : Nat → C} {k : K} (hA : ∀ x, x ∈ A → lt x.1 k) (hB : ∀ x, x ∈ B → lt k x.1) (hs : ∀ q r, q < r → r < n → lt (key q) (key r)) (hi : i ≤ n) (h1 : ∀ q, q < i → lt (key q) k) (h2 : i < n → ¬ lt (key i) k) (x : K × C) :
    x ∈ rowsF (n - i) (fun q => key (i + q)) (fun q => cell (i + q)) ++ B ↔ x ∈ A ++ rowsF n key cell ++ B ∧ ¬ lt x.1 k := by
  constructor
  · intro hx
    rcases List.mem_append.1 hx with hx | hx
    · obtain ⟨q, hq, rfl⟩ := rowsF_mem.1 hx
      refine ⟨List.mem_append_left _ (List.mem_append_right _ (rowsF_mem.2 ⟨i + q, by omega, rfl⟩)), fun hlt => ?_⟩
      have h3 := h2 (by omega)
      by_cases e : q = 0
      · subst e; exact h3 hlt
      · exact h3 (o.tr _ _ _ (hs i (i + q) (by omega) (by omega)) hlt)
    · exact ⟨List.mem_append_right _ hx, fun hlt => o.irr _ (o.tr _ _ _ hlt (hB x hx))⟩
  · rintro ⟨hx, hn⟩
    rcases List.mem_append.1 hx with hx | hx
    · rcases List.mem_append.1 hx with hx | hx
      · exact absurd (hA x hx) hn
      · obtain ⟨q, hq, rfl⟩ := rowsF_mem.1 hx
        rcases Nat.lt_or_ge q i with e | e
        · exact absurd (h1 q e) hn
        · refine List.mem_append_left _ (rowsF_mem.2 ⟨q - i, by omega, ?_⟩)
          rw [show i + (q - i) = q by omega]
    · exact List.mem_append_right _ hx
/-- The leaf's cells tell whether a key is there. -/
theorem rows_there (o : Ord lt) {A B : List (K × C)} {n : Nat} {key : Nat → K} {cell : Nat → C} {k : K} (hA : ∀ x, x ∈ A → lt x.1 k) (hB : ∀ x, x ∈ B → lt k x.1) (c : C) : (k, c) ∈ A ++ rowsF n key cell ++ B ↔ ∃ q, q < n ∧ key q = k ∧ cell q = c := by
  constructor
  · intro hx
    rcases List.mem_append.1 hx with hx | hx
    · rcases List.mem_append.1 hx with hx | hx
      · exact absurd (hA _ hx) (o.irr _)
      · obtain ⟨q, hq, e⟩ := rowsF_mem.1 hx
        injection e with e1 e2
        exact ⟨q, hq, e1.symm, e2.symm⟩
    · exact absurd (hB _ hx) (o.irr _)
  · rintro ⟨q, hq, rfl, rfl⟩
    exact List.mem_append_left _ (List.mem_append_right _ (rowsF_mem.2 ⟨q, hq, rfl⟩))
end
end Go.Proofs.YtelbioooggnbiaaGreat
namespace Go.Proofs.YtelbioooggnbiaaGreat
section
variable {K C : Type} {lt : K → K → Prop}
/-- Rows with a row more. -/
def RIns (R R' : List (K × C)) (k : K) (c : C) : Prop := ∃ A B, R = A ++ B ∧ R' = A ++ [(k, c)] ++ B
theorem RIns.ctx {R R' : List (K × C)} {k : K} {c : C} (h : RIns R R' k c) (A B : List (K × C)) : RIns (A ++ R ++ B) (A ++ R' ++ B) k c := by
  obtain ⟨X, Y, rfl, rfl⟩ := h
  exact ⟨A ++ X, Y ++ B, by simp [List.append_assoc], by simp [List.append_assoc]⟩
theorem RIns.mem {R R' : List (K × C)} {k : K} {c : C} (h : RIns R R' k c) (x : K × C) : x ∈ R' ↔ x = (k, c) ∨ x ∈ R := by
  obtain ⟨X, Y, rfl, rfl⟩ := h
  simp only [List.mem_append, List.mem_singleton]
  constructor
  · rintro ((h | h) | h)
    · exact .inr (.inl h)
    · exact .inl h
    · exact .inr (.inr h)
  · rintro (h | h | h)
    · exact .inl (.inr h)
    · exact .inl (.inl h)
    · exact .inr h
/-- A leaf becomes two, in a row of leaves. -/
def LS (l l2 : Nat) (L L' : List Nat) : Prop := ∃ u v, L = u ++ l :: v ∧ L' = u ++ l :: l2 :: v
theorem LS.ctx {l l2 : Nat} {L L' : List Nat} (h : LS l l2 L L') (A B : List Nat) : LS l l2 (A ++ L ++ B) (A ++ L' ++ B) := by
  obtain ⟨X, Y, rfl, rfl⟩ := h
  exact ⟨A ++ X, Y ++ B, by simp [List.append_assoc], by simp [List.append_assoc]⟩
/-- Two trees side by side. -/
theorem LS.len {l l2 : Nat} {L L' : List Nat} (h : LS l l2 L L') : L'.length = L.length + 1 := by
  obtain ⟨u, v, rfl, rfl⟩ := h
  simp
  omega
def Two (lt : K → K → Prop) (N : Nat → Nd K C) (h : Nat) (a b : Option K) (z id2 : Nat) (s : K) (L I : List Nat) (R : List (K × C)) : Prop :=
  ∃ l1 l2 i1 i2 r1 r2, inR lt a b s ∧ (∀ y, a = some y → lt y s) ∧ Tr lt N h z a (some s) l1 i1 r1 ∧ Tr lt N h id2 (some s) b l2 i2 r2 ∧ L = l1 ++ l2 ∧ I = i1 ++ i2 ∧ R = r1 ++ r2
theorem lt_of (o : Ord lt) {x y z : K} (h1 : ¬ lt y x) (h2 : lt y z) : lt x z := by
  by_cases e : lt x y
  · exact o.tr _ _ _ e h2
  · rw [o.tri x y e h1]; exact h2
/-- A leaf with a row more. -/
theorem leaf_put {N N' : Nat → Nd K C} {y i : Nat} {a b : Option K} {L I : List Nat} {R : List (K × C)} {k : K} {c : C} (t : Tr lt N 0 y a b L I R) (hk : inR lt a b k) (hi : i ≤ (N y).n) (h1 : ∀ r, r < i → lt ((N y).key r) k) (h2 : ∀ r, i ≤ r → r < (N y).n → lt k ((N y).key r))
    (g0 : (N' y).lv = 0) (g1 : (N' y).n = (N y).n + 1) (g2 : ∀ r, r < (N y).n + 1 → (N' y).key r = insF (N y).key i k r) (g3 : ∀ r, r < (N y).n + 1 → (N' y).cell r = insF (N y).cell i c r) :
    L = [y] ∧ I = [y] ∧ ∃ R', Tr lt N' 0 y a b [y] [y] R' ∧ RIns R R' k c := by
  obtain ⟨rfl, rfl, rfl, h0, lf⟩ := t.lf
  have li := lf.ins hi hk h1 h2
  refine ⟨rfl, rfl, _, li.node (N := N') (id := y) g0 g1 g2 g3, ?_⟩
  rw [rowsF_ins hi]
  have : (N y).rows = rowsF i (N y).key (N y).cell ++ rowsF ((N y).n - i) (fun r => (N y).key (i + r)) (fun r => (N y).cell (i + r)) := by
    rw [← rowsF_add, show i + ((N y).n - i) = (N y).n by omega]; rfl
  exact ⟨_, _, this, by simp [List.append_assoc]⟩
/-- A leaf becomes two, with a row more. -/
theorem leaf_split (o : Ord lt) {N N' : Nat → Nd K C} {y z id2 i m : Nat} {a b : Option K} {L I : List Nat} {R : List (K × C)} {k : K} {c : C} (t : Tr lt N 0 y a b L I R) (hk : inR lt a b k) (hi : i ≤ (N y).n) (h1 : ∀ r, r < i → lt ((N y).key r) k) (h2 : ∀ r, i ≤ r → r < (N y).n → lt k ((N y).key r))
    (m0 : 0 < m) (m1 : m < (N y).n + 1)
    (g0 : (N' z).lv = 0) (g1 : (N' z).n = m) (g2 : ∀ r, r < m → (N' z).key r = insF (N y).key i k r) (g3 : ∀ r, r < m → (N' z).cell r = insF (N y).cell i c r)
    (f0 : (N' id2).lv = 0) (f1 : (N' id2).n = (N y).n + 1 - m) (f2 : ∀ r, r < (N y).n + 1 - m → (N' id2).key r = insF (N y).key i k (m + r)) (f3 : ∀ r, r < (N y).n + 1 - m → (N' id2).cell r = insF (N y).cell i c (m + r)) :
    L = [y] ∧ I = [y] ∧ ∃ R', Two lt N' 0 a b z id2 (insF (N y).key i k m) [z, id2] [z, id2] R' ∧ RIns R R' k c := by
  obtain ⟨rfl, rfl, rfl, h0, lf⟩ := t.lf
  have li := lf.ins hi hk h1 h2
  have t1 := (li.low m1).node (N := N') (id := z) (cell := insF (N y).cell i c) g0 g1 g2 g3
  have t2 := (li.high o m1).node (N := N') (id := id2) (cell := fun r => insF (N y).cell i c (m + r)) f0 f1 f2 f3
  refine ⟨rfl, rfl, _, ⟨_, _, _, _, _, _, li.bd m m1, fun x hx => ?_, t1, t2, rfl, rfl, rfl⟩, ?_⟩
  · exact lt_of o ((li.bd 0 (by omega)).1 x hx) (li.so 0 m m0 m1)
  · rw [← rowsF_add, show m + ((N y).n + 1 - m) = (N y).n + 1 by omega, rowsF_ins hi]
    have : (N y).rows = rowsF i (N y).key (N y).cell ++ rowsF ((N y).n - i) (fun r => (N y).key (i + r)) (fun r => (N y).cell (i + r)) := by
      rw [← rowsF_add, show i + ((N y).n - i) = (N y).n by omega]; rfl
    exact ⟨_, _, this, by simp [List.append_assoc]⟩
/-- What hung from a node has become two. -/
def Mid (lt : K → K → Prop) (N N' : Nat → Nd K C) (V : List Nat) (h x : Nat) (k : K) (c : C) (s : K) (id2 : Nat) (news : List Nat) (l l2 : Nat) : Prop :=
  ∀ (a b : Option K) (L I : List Nat) (R : List (K × C)), Tr lt N h x a b L I R → inR lt a b k → (∀ i, i ∈ I → i ∈ V) → I.Nodup →
    (∀ i, i ∈ V → i ∉ I → N' i = N i) ∧ ∃ L' I' R', Two lt N' h a b x id2 s L' I' R' ∧ I'.Perm (news ++ I) ∧ RIns R R' k c ∧ LS l l2 L L'
section
variable {N N' N'' : Nat → Nd K C} {V news : List Nat} {h y q : Nat} {k : K} {c : C} {s : K} {id2 l l2 : Nat} {a b : Option K} {L I : List Nat} {R : List (K × C)}
theorem perm_mid (y : Nat) (iA I' news idx iB : List Nat) (hp : I'.Perm (news ++ idx)) : (y :: (iA ++ I' ++ iB)).Perm (news ++ (y :: (iA ++ idx ++ iB))) := by
  have e1 : (iA ++ I' ++ iB).Perm (iA ++ (news ++ idx) ++ iB) := (hp.append_left iA).append_right iB
  have e2 : (iA ++ (news ++ idx) ++ iB).Perm (news ++ (iA ++ idx ++ iB)) := by
    have : (iA ++ (news ++ idx)).Perm (news ++ (iA ++ idx)) := by
      rw [← List.append_assoc, ← List.append_assoc]
      exact List.perm_append_comm.append_right idx
    have := this.append_right iB
    rw [List.append_assoc news] at this
    exact this
  exact ((e1.trans e2).cons y).trans List.perm_middle.symm
/-- The node takes the cell. -/
theorem Mid.put (o : Ord lt) (hm : Mid lt N N' V h ((N y).kid q) k c s id2 news l l2) (t : Tr lt N (h + 1) y a b L I R) (hk : inR lt a b k) (hw : Way lt (N y) k q) (hV : ∀ i, i ∈ I → i ∈ V) (hd : I.Nodup) (hn : y ∉ news)
    (hs : ∀ i, i ≠ y → N'' i = N' i) (g0 : (N'' y).lv = h + 1) (g1 : (N'' y).n = (N y).n + 1) (g2 : ∀ r, 0 < r → r < (N y).n + 1 → (N'' y).key r = insF (N y).key (q + 1) s r) (g3 : ∀ r, r < (N y).n + 1 → (N'' y).kid r = insF (N y).kid (q + 1) id2 r) :
    (∀ i, i ∈ V → i ∉ I → N'' i = N i) ∧ ∃ L' I' R', Tr lt N'' (h + 1) y a b L' I' R' ∧ I'.Perm (news ++ I) ∧ RIns R R' k c ∧ LS l l2 L L' := by
  obtain ⟨lA, lB, iA, iB, lfx, idx, rA, rB, rsx, tx, hkx, rfl, rfl, rfl, -, -, -, cl⟩ := t.push o hk hw
  rw [List.nodup_cons] at hd
  have hsub : ∀ i, i ∈ idx → i ∈ iA ++ idx ++ iB := fun i hi => by simp [hi]
  obtain ⟨fr, L', I', R', ⟨l1, l2', i1, i2, r1, r2, hin, hlt, t1, t2, rfl, rfl, rfl⟩, hp, hr, hl⟩ := hm _ _ _ _ _ tx hkx (fun i hi => hV i (List.mem_cons_of_mem _ (hsub i hi))) (by
    have := hd.2; rw [List.nodup_append, List.nodup_append] at this; exact this.1.2.1)
  have hyI : y ∉ i1 ++ i2 := fun hy => by
    rcases List.mem_append.1 (hp.mem_iff.1 hy) with h1 | h1
    · exact hn h1
    · exact hd.1 (hsub y h1)
  have hN : ∀ i, i ∈ iA ∨ i ∈ iB → N'' i = N i := fun i hi => by
    have hm1 : i ∈ iA ++ idx ++ iB := by rcases hi with hi | hi <;> simp [hi]
    have hne : i ≠ y := fun e => hd.1 (e ▸ hm1)
    rw [hs i hne]
    refine fr i (hV i (List.mem_cons_of_mem _ hm1)) fun hx => ?_
    have h2 := hd.2
    rw [List.nodup_append, List.nodup_append] at h2
    rcases hi with hi | hi
    · exact h2.1.2.2 i hi i hx rfl
    · exact h2.2.2 i (List.mem_append_right _ hx) i hi rfl
  obtain ⟨lf', ids', rs', inn, -, e1, e2, e3⟩ := cl N'' s id2 l1 i1 l2' i2 r1 r2 hN hin (fun hq => hlt _ (by unfold Nd.lo; rw [if_neg (by omega)])) (t1.frame fun i hi => hs i fun e => hyI (e ▸ List.mem_append_left _ hi)) (t2.frame fun i hi => hs i fun e => hyI (e ▸ List.mem_append_right _ hi))
  have res := inn.node (id := y) g0 g1 g2 g3
  rw [e1, e2, e3] at res
  refine ⟨fun i hi hI => ?_, _, _, _, res, ?_, ?_, ?_⟩
  · rw [hs i (fun e => hI (e ▸ List.mem_cons_self))]
    exact fr i hi fun hx => hI (List.mem_cons_of_mem _ (hsub i hx))
  · have := perm_mid y iA (i1 ++ i2) news idx iB hp
    simpa [List.append_assoc] using this
  · have := hr.ctx rA rB
    simpa [List.append_assoc] using this
  · have := hl.ctx lA lB
    simpa [List.append_assoc] using this
theorem perm_two (z id3 : Nat) (A B : List Nat) : ((z :: A) ++ (id3 :: B)).Perm (z :: id3 :: (A ++ B)) := by
  rw [List.cons_append]
  exact List.perm_middle.cons z
/-- The node becomes two. -/
theorem Mid.split (o : Ord lt) {z id3 m : Nat} (hm : Mid lt N N' V h ((N y).kid q) k c s id2 news l l2) (t : Tr lt N (h + 1) y a b L I R) (hk : inR lt a b k) (hw : Way lt (N y) k q) (hV : ∀ i, i ∈ I → i ∈ V) (hd : I.Nodup) (hn : y ∉ news)
    (hz : z = y ∨ z ∉ V) (hz2 : z ∉ news) (h3 : id3 ∉ V) (h32 : id3 ∉ news) (m0 : 1 < m) (m1 : m < (N y).n + 1)
    (hs : ∀ i, i ≠ y → i ≠ z → i ≠ id3 → N'' i = N' i) (g0 : (N'' z).lv = h + 1) (g1 : (N'' z).n = m) (g2 : ∀ r, 0 < r → r < m → (N'' z).key r = insF (N y).key (q + 1) s r) (g3 : ∀ r, r < m → (N'' z).kid r = insF (N y).kid (q + 1) id2 r)
    (f0 : (N'' id3).lv = h + 1) (f1 : (N'' id3).n = (N y).n + 1 - m) (f2 : ∀ r, 0 < r → r < (N y).n + 1 - m → (N'' id3).key r = insF (N y).key (q + 1) s (m + r)) (f3 : ∀ r, r < (N y).n + 1 - m → (N'' id3).kid r = insF (N y).kid (q + 1) id2 (m + r)) :
    (∀ i, i ∈ V → i ∉ I → N'' i = N i) ∧ ∃ L' I' R' J, Two lt N'' (h + 1) a b z id3 (insF (N y).key (q + 1) s m) L' I' R' ∧ I = y :: J ∧ I'.Perm (z :: id3 :: (news ++ J)) ∧ RIns R R' k c ∧ LS l l2 L L' := by
  obtain ⟨lA, lB, iA, iB, lfx, idx, rA, rB, rsx, tx, hkx, rfl, rfl, rfl, -, -, -, cl⟩ := t.push o hk hw
  rw [List.nodup_cons] at hd
  have hsub : ∀ i, i ∈ idx → i ∈ iA ++ idx ++ iB := fun i hi => by simp [hi]
  obtain ⟨fr, L', I', R', ⟨l1, l2', i1, i2, r1, r2, hin, hlt, t1, t2, rfl, rfl, rfl⟩, hp, hr, hl⟩ := hm _ _ _ _ _ tx hkx (fun i hi => hV i (List.mem_cons_of_mem _ (hsub i hi))) (by
    have := hd.2; rw [List.nodup_append, List.nodup_append] at this; exact this.1.2.1)
  have neV : ∀ i, i ∈ V → i ≠ y → i ≠ z ∧ i ≠ id3 := fun i hi hy => ⟨fun e => by
    rcases hz with hz | hz
    · exact hy (e.trans hz)
    · exact hz (e ▸ hi), fun e => h3 (e ▸ hi)⟩
  have keep : ∀ i, i ∈ i1 ++ i2 → N'' i = N' i := fun i hi => by
    rcases List.mem_append.1 (hp.mem_iff.1 hi) with h1 | h1
    · exact hs i (fun e => hn (e ▸ h1)) (fun e => hz2 (e ▸ h1)) (fun e => h32 (e ▸ h1))
    · have hne : i ≠ y := fun e => hd.1 (e ▸ hsub i h1)
      have := neV i (hV i (List.mem_cons_of_mem _ (hsub i h1))) hne
      exact hs i hne this.1 this.2
  have hN : ∀ i, i ∈ iA ∨ i ∈ iB → N'' i = N i := fun i hi => by
    have hm1 : i ∈ iA ++ idx ++ iB := by rcases hi with hi | hi <;> simp [hi]
    have hne : i ≠ y := fun e => hd.1 (e ▸ hm1)
    have hv := hV i (List.mem_cons_of_mem _ hm1)
    have := neV i hv hne
    rw [hs i hne this.1 this.2]
    refine fr i hv fun hx => ?_
    have h2 := hd.2
    rw [List.nodup_append, List.nodup_append] at h2
    rcases hi with hi | hi
    · exact h2.1.2.2 i hi i hx rfl
    · exact h2.2.2 i (List.mem_append_right _ hx) i hi rfl
  obtain ⟨lf', ids', rs', inn, hsa, e1, e2, e3⟩ := cl N'' s id2 l1 i1 l2' i2 r1 r2 hN hin (fun hq => hlt _ (by unfold Nd.lo; rw [if_neg (by omega)])) (t1.frame fun i hi => keep i (List.mem_append_left _ hi)) (t2.frame fun i hi => keep i (List.mem_append_right _ hi))
  have lo := (inn.low (m := m) (by omega) m1 o).node (id := z) g0 g1 g2 g3
  have hi := (inn.high (m := m) (by omega) m1 o).node (id := id3) f0 f1 f2 f3
  have add : ∀ {α : Type} (f : Nat → List α), flat m f ++ flat ((N y).n + 1 - m) (fun r => f (m + r)) = flat ((N y).n + 1) f := fun f => by rw [← flat_add, show m + ((N y).n + 1 - m) = (N y).n + 1 by omega]
  refine ⟨fun i hi hI => ?_, _, _, _, iA ++ idx ++ iB, ⟨_, _, _, _, _, _, inn.bd m (by omega) m1, fun x hx => ?_, lo, hi, rfl, rfl, rfl⟩, rfl, ?_, ?_, ?_⟩
  · have hne : i ≠ y := fun e => hI (e ▸ List.mem_cons_self)
    have := neV i hi hne
    rw [hs i hne this.1 this.2]
    exact fr i hi fun hx => hI (List.mem_cons_of_mem _ (hsub i hx))
  · exact lt_of o ((inn.bd 1 (by omega) (by omega)).1 x hx) (inn.so 1 m (by omega) m0 m1)
  · refine (perm_two z id3 _ _).trans ?_
    rw [add ids', e2]
    have := perm_mid y iA (i1 ++ i2) news idx iB hp
    have h2 : (iA ++ i1 ++ i2 ++ iB).Perm (news ++ (iA ++ idx ++ iB)) := by
      have h4 := this.trans List.perm_middle
      have := (List.perm_cons y).1 h4
      simpa [List.append_assoc] using this
    exact (h2.cons _).cons _
  · have := hr.ctx rA rB
    rw [add rs', e3]
    simpa [List.append_assoc] using this
  · have := hl.ctx lA lB
    rw [add lf', e1]
    simpa [List.append_assoc] using this
/-- A root over two. -/
theorem Two.root {h rt z : Nat} {L I : List Nat} {R : List (K × C)} (t : Two lt N h a b z id2 s L I R) (g0 : (N rt).lv = h + 1) (g1 : (N rt).n = 2) (g2 : (N rt).key 1 = s) (g3 : (N rt).kid 0 = z ∧ (N rt).kid 1 = id2) : Tr lt N (h + 1) rt a b L (rt :: I) R := by
  obtain ⟨l1, l2, i1, i2, r1, r2, hin, -, t1, t2, rfl, rfl, rfl⟩ := t
  have := (Inn.pair (k0 := s) hin t1 t2).node (id := rt) g0 g1 (fun r h1 h2 => by obtain rfl : r = 1 := (by omega); exact g2) (fun r hr => by
    rcases (show r = 0 ∨ r = 1 by omega) with rfl | rfl
    · exact g3.1
    · exact g3.2)
  rw [flat_two, flat_two, flat_two] at this
  exact this
end
/-- The way goes on downwards. -/
theorem Down.more {N : Nat → Nd K C} {k : K} {h x H id q : Nat} (d : Down lt N k (h + 1) x H id) (hw : Way lt (N x) k q) : Down lt N k h ((N x).kid q) H id := by
  induction d with
  | here => exact .step hw .here
  | step hw2 hd ih => exact .step hw2 ih
/-- There are as many leaves as two to the height, where each node over nodes has two. -/
theorem Tr.many {N : Nat → Nd K C} {h id : Nat} {a b : Option K} {L I : List Nat} {R : List (K × C)} (t : Tr lt N h id a b L I R) (h2 : ∀ i, i ∈ I → (N i).lv ≠ 0 → 2 ≤ (N i).n) : 2 ^ h ≤ L.length := by
  induction t with
  | leaf h0 h1 h2 => simp
  | @inner h id a b lf ids rs h0 hn h1 _ hk ih =>
    have n2 := h2 id List.mem_cons_self (by omega)
    have e0 := ih 0 (by omega) fun i hi => h2 i (List.mem_cons_of_mem _ (flat_mem.2 ⟨0, by omega, hi⟩))
    have e1 := ih 1 (by omega) fun i hi => h2 i (List.mem_cons_of_mem _ (flat_mem.2 ⟨1, by omega, hi⟩))
    have : flat (N id).n lf = lf 0 ++ lf 1 ++ flat ((N id).n - 2) (fun r => lf (2 + r)) := by
      rw [show (N id).n = 2 + ((N id).n - 2) by omega, flat_add, show (2 : Nat) = 1 + 1 from rfl, flat_succ, flat_succ]
      simp [flat]
    rw [this, Nat.pow_succ]
    simp only [List.length_append]
    omega
/-- Where each node has three rows or children, there are at least twice as many rows as nodes. -/
theorem Tr.few {N : Nat → Nd K C} {h id : Nat} {a b : Option K} {L I : List Nat} {R : List (K × C)} (t : Tr lt N h id a b L I R) (h3 : ∀ i, i ∈ I → 3 ≤ (N i).n) : 2 * I.length + 1 ≤ R.length := by
  induction t with
  | leaf h0 h1 h2 =>
    have := h3 _ List.mem_cons_self
    simp [Nd.rows]; omega
  | @inner h id a b lf ids rs h0 hn h1 _ hk ih =>
    have n3 := h3 id List.mem_cons_self
    have key : ∀ m, m ≤ (N id).n → 2 * (flat m ids).length + m ≤ (flat m rs).length := by
      intro m
      induction m with
      | zero => intro _; simp [flat]
      | succ m ihm =>
        intro hm
        have := ihm (by omega)
        have := ih m (by omega) fun i hi => h3 i (List.mem_cons_of_mem _ (flat_mem.2 ⟨m, by omega, hi⟩))
        rw [flat_succ, flat_succ, List.length_append, List.length_append]
        omega
    have := key _ (Nat.le_refl _)
    simp only [List.length_cons]
    omega
/-- The same but for the root, which may have two. -/
theorem Tr.few_root {N : Nat → Nd K C} {h id : Nat} {a b : Option K} {L I : List Nat} {R : List (K × C)} (t : Tr lt N h id a b L I R) (hd : I.Nodup) (h2 : ∀ i, i ∈ I → (N i).lv ≠ 0 → 2 ≤ (N i).n) (h3 : ∀ i, i ∈ I → i ≠ id → 3 ≤ (N i).n) : I.length = 1 ∨ 2 * I.length ≤ R.length + 1 := by
  cases t with
  | leaf h0 h1 h2 => left; rfl
  | @inner h id a b lf ids rs h0 hn h1 _ hk =>
    right
    have n2 := h2 id List.mem_cons_self (by omega)
    rw [List.nodup_cons] at hd
    have key : ∀ m, m ≤ (N id).n → 2 * (flat m ids).length + m ≤ (flat m rs).length := by
      intro m
      induction m with
      | zero => intro _; simp [flat]
      | succ m ihm =>
        intro hm
        have := ihm (by omega)
        have := (hk m (by omega)).few fun i hi => h3 i (List.mem_cons_of_mem _ (flat_mem.2 ⟨m, by omega, hi⟩)) (fun e => hd.1 (by
          have hx : i ∈ flat (N id).n ids := flat_mem.2 ⟨m, by omega, hi⟩
          rw [e] at hx; exact hx))
        rw [flat_succ, flat_succ, List.length_append, List.length_append]
        omega
    have := key _ (Nat.le_refl _)
    simp only [List.length_cons]
    omega
end
end Go.Proofs.YtelbioooggnbiaaGreat
