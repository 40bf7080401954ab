/- Locks, told plainly: what can be given is given; a table of queues; whoever waits waits at one name. No program in sight. -/
import Derived.Test.YtnpnpkaklamboaaDoorLkAbs
set_option linter.unusedVariables false
set_option linter.unusedSimpArgs false
namespace Go.Proofs.YtnpnpkaklamboaaDoor

section
variable (cp : Nat → Nat → Bool)
def Que.wantOf (q : Que) (x : Int) : Nat := match getH x q.hs with | some h => h.w | none => 0
/-- The first that is eager and can be given. -/
def Que.ripe (q : Que) : Option Int := q.eg.find? fun x => q.free cp x (q.wantOf x)
def Que.grantX (q : Que) (x : Int) : Que := ⟨setH x (fun h => ⟨h.x, h.w, 0⟩) q.hs, q.eg.erase x, q.ws⟩
def Que.give1 : Nat → Que → Que × List Int
  | 0, q => (q, [])
  | k + 1, q => match q.ripe cp with | none => (q, []) | some x => ((Que.give1 k (q.grantX x)).1, x :: (Que.give1 k (q.grantX x)).2)
def Que.headW (q : Que) (p : Int × Nat) (l : List (Int × Nat)) : Que := ⟨insH ⟨p.1, p.2, 0⟩ q.hs, q.eg, l⟩
def Que.give2 : Nat → Que → Que × List Int
  | 0, q => (q, [])
  | k + 1, q => match q.ws with
    | [] => (q, [])
    | p :: l => if q.eg = [] ∧ q.free cp p.1 p.2 = true then ((Que.give2 k (q.headW p l)).1, p.1 :: (Que.give2 k (q.headW p l)).2) else (q, [])
def Que.give (q : Que) : Que × List Int :=
  let a := Que.give1 cp q.eg.length q
  let b := Que.give2 cp a.1.ws.length a.1
  (b.1, a.2 ++ b.2)
def Que.waits (q : Que) (x : Int) : Prop := x ∈ q.eg ∨ ∃ p, p ∈ q.ws ∧ p.1 = x
def Que.has (q : Que) (x : Int) : Prop := (∃ h, h ∈ q.hs ∧ h.x = x) ∨ ∃ p, p ∈ q.ws ∧ p.1 = x
/-- Numbers within bounds. -/
structure Que.bd (q : Que) : Prop where
  hs : ∀ h, h ∈ q.hs → (-9223372036854775808 ≤ h.x ∧ h.x ≤ 9223372036854775807) ∧ h.m ≤ 6 ∧ h.w ≤ 6
  ws : ∀ p, p ∈ q.ws → (-9223372036854775808 ≤ p.1 ∧ p.1 ≤ 9223372036854775807) ∧ p.2 ≤ 6
  eg : ∀ x, x ∈ q.eg → -9223372036854775808 ≤ x ∧ x ≤ 9223372036854775807
def Que.few (q : Que) (N : Nat) : Prop := q.hs.length + q.ws.length ≤ N ∧ q.eg.length ≤ N
variable {cp}
theorem insH_length {h : Hold} : ∀ {l : List Hold}, (insH h l).length = l.length + 1
  | [] => rfl
  | g :: l => by
    unfold insH
    by_cases e : g.x < h.x
    · rw [if_pos e, List.length_cons, insH_length, List.length_cons]
    · rw [if_neg e, List.length_cons]
theorem setH_length {x : Int} {f : Hold → Hold} {l : List Hold} : (setH x f l).length = l.length := by simp [setH]
theorem Que.bd.nil : Que.nil.bd := ⟨fun h hh => (by cases hh), fun p hp => (by cases hp), fun x hx => (by cases hx)⟩
theorem Que.bd.leave {q : Que} (h : q.bd) (x : Int) : (q.leave x).bd :=
  ⟨fun g hg => h.hs g (List.mem_filter.1 hg).1, fun p hp => h.ws p (List.mem_filter.1 hp).1, fun y hy => h.eg y (List.mem_filter.1 hy).1⟩
theorem Que.bd.grantX {q : Que} (h : q.bd) (x : Int) : (q.grantX x).bd :=
  ⟨fun g hg => by
    obtain ⟨k, hk, rfl⟩ := setH_mem.1 hg
    have := h.hs k hk
    by_cases e : k.x = x
    · rw [if_pos e]; exact ⟨this.1, this.2.2, Nat.zero_le _⟩
    · rw [if_neg e]; exact this, h.ws, fun y hy => h.eg y (List.mem_of_mem_erase hy)⟩
theorem Que.bd.headW {q : Que} (h : q.bd) {p : Int × Nat} {l : List (Int × Nat)} (e : q.ws = p :: l) : (q.headW p l).bd :=
  ⟨fun g hg => by
    rcases insH_mem.1 hg with rfl | hg
    · have := h.ws p (by rw [e]; exact List.mem_cons_self)
      exact ⟨this.1, this.2, Nat.zero_le _⟩
    · exact h.hs g hg, fun r hr => h.ws r (by rw [e]; exact List.mem_cons_of_mem _ hr), h.eg⟩
theorem Que.bd.ask {q : Que} (h : q.bd) (jn : Nat → Nat → Nat) (hj : ∀ a b, a ≤ 6 → b ≤ 6 → jn a b ≤ 6) {x : Int} {m : Nat} (hx : -9223372036854775808 ≤ x ∧ x ≤ 9223372036854775807) (hm : m ≤ 6) : (q.ask cp jn x m).1.bd := by
  unfold Que.ask
  cases hg : getH x q.hs with
  | none =>
    dsimp only
    split
    · exact ⟨fun g hg => by
        rcases insH_mem.1 hg with rfl | hg
        · exact ⟨hx, hm, Nat.zero_le _⟩
        · exact h.hs g hg, h.ws, h.eg⟩
    · exact ⟨h.hs, fun p hp => by
        rcases List.mem_append.1 hp with hp | hp
        · exact h.ws p hp
        · rw [List.mem_singleton] at hp; subst hp; exact ⟨hx, hm⟩, h.eg⟩
  | some g =>
    have hb := h.hs g (getH_some hg).1
    dsimp only
    split
    · exact ⟨fun k hk => by
        obtain ⟨k', hk', rfl⟩ := setH_mem.1 hk
        have := h.hs k' hk'
        by_cases e : k'.x = x
        · rw [if_pos e]; exact ⟨this.1, hj _ _ hb.2.1 hm, this.2.2⟩
        · rw [if_neg e]; exact this, h.ws, h.eg⟩
    · exact ⟨fun k hk => by
        obtain ⟨k', hk', rfl⟩ := setH_mem.1 hk
        have := h.hs k' hk'
        by_cases e : k'.x = x
        · rw [if_pos e]; exact ⟨this.1, this.2.1, hj _ _ hb.2.1 hm⟩
        · rw [if_neg e]; exact this, h.ws, fun y hy => by
          rcases List.mem_append.1 hy with hy | hy
          · exact h.eg y hy
          · rw [List.mem_singleton] at hy; subst hy; exact hx⟩
theorem Que.few.ask {q : Que} {N : Nat} (h : q.few N) (jn : Nat → Nat → Nat) (x : Int) (m : Nat) : (q.ask cp jn x m).1.few (N + 1) := by
  obtain ⟨h1, h2⟩ := h
  unfold Que.ask Que.few
  cases hg : getH x q.hs with
  | none =>
    dsimp only
    split
    · dsimp only; rw [insH_length]; omega
    · dsimp only; rw [List.length_append, List.length_singleton]; omega
  | some g =>
    dsimp only
    split
    · dsimp only; rw [setH_length]; omega
    · dsimp only; rw [setH_length, List.length_append, List.length_singleton]; omega
theorem Que.few.leave {q : Que} {N : Nat} (h : q.few N) (x : Int) : (q.leave x).few N := by
  obtain ⟨h1, h2⟩ := h
  unfold Que.leave Que.few
  dsimp only
  have a := List.length_filter_le (fun h : Hold => h.x != x) q.hs
  have b := List.length_filter_le (fun y : Int => y != x) q.eg
  have c := List.length_filter_le (fun p : Int × Nat => p.1 != x) q.ws
  omega
theorem Que.few.grantX {q : Que} {N : Nat} (h : q.few N) (x : Int) : (q.grantX x).few N := by
  obtain ⟨h1, h2⟩ := h
  unfold Que.grantX Que.few
  dsimp only
  have b : (q.eg.erase x).length ≤ q.eg.length := List.length_erase_le
  rw [setH_length]
  omega
theorem Que.few.headW {q : Que} {N : Nat} (h : q.few N) {p : Int × Nat} {l : List (Int × Nat)} (e : q.ws = p :: l) : (q.headW p l).few N := by
  obtain ⟨h1, h2⟩ := h
  unfold Que.headW Que.few
  dsimp only
  rw [e, List.length_cons] at h1
  rw [insH_length]
  omega
theorem getH_of {l : List Hold} (h : l.Pairwise fun a b => a.x < b.x) {g : Hold} (hg : g ∈ l) : getH g.x l = some g := by
  cases e : getH g.x l with
  | none => exact absurd rfl (getH_none e g hg)
  | some k =>
    obtain ⟨h1, h2⟩ := getH_some e
    rw [one_hold h h1 hg h2]
theorem ripe_some {q : Que} {x : Int} (h : q.ripe cp = some x) : x ∈ q.eg ∧ q.free cp x (q.wantOf x) = true := by
  unfold Que.ripe at h
  exact ⟨List.mem_of_find?_eq_some h, by have := List.find?_some h; simpa using this⟩
theorem ripe_none {q : Que} (h : q.ripe cp = none) : ∀ x, x ∈ q.eg → q.free cp x (q.wantOf x) = false := by
  unfold Que.ripe at h
  rw [List.find?_eq_none] at h
  intro x hx
  have := h x hx
  simpa using this
theorem eager_hold {q : Que} (h : q.ok cp) {x : Int} (hx : x ∈ q.eg) : ∃ g, g ∈ q.hs ∧ g.x = x ∧ g.w ≠ 0 ∧ getH x q.hs = some g ∧ q.wantOf x = g.w := by
  obtain ⟨g, h1, h2, h3⟩ := (h.eg x).1 hx
  subst h2
  refine ⟨g, h1, rfl, h3, getH_of h.so h1, ?_⟩
  unfold Que.wantOf
  rw [getH_of h.so h1]
theorem Que.ok.grantX (sy : ∀ a b, cp a b = cp b a) {q : Que} (h : q.ok cp) {x : Int} (hr : q.ripe cp = some x) : (q.grantX x).ok cp := by
  obtain ⟨h1, h2⟩ := ripe_some hr
  obtain ⟨g, hg, rfl, hw, _, e⟩ := eager_hold h h1
  rw [e] at h2
  exact h.grant sy hg hw h2
theorem Que.ok.headW (sy : ∀ a b, cp a b = cp b a) {q : Que} (h : q.ok cp) {p : Int × Nat} {l : List (Int × Nat)} (e : q.ws = p :: l) (hf : q.free cp p.1 p.2 = true) : (q.headW p l).ok cp := h.first sy e hf
theorem has_grantX {q : Que} {x y : Int} : (q.grantX x).has y ↔ q.has y := by
  unfold Que.has Que.grantX
  dsimp only
  refine or_congr ⟨?_, ?_⟩ Iff.rfl
  · rintro ⟨h, hh, rfl⟩
    obtain ⟨k, hk, rfl⟩ := setH_mem.1 hh
    refine ⟨k, hk, ?_⟩
    by_cases e : k.x = x
    · rw [if_pos e]
    · rw [if_neg e]
  · rintro ⟨k, hk, rfl⟩
    refine ⟨_, setH_mem.2 ⟨k, hk, rfl⟩, ?_⟩
    by_cases e : k.x = x
    · rw [if_pos e]
    · rw [if_neg e]
theorem has_headW {q : Que} {p : Int × Nat} {l : List (Int × Nat)} (e : q.ws = p :: l) {y : Int} : (q.headW p l).has y ↔ q.has y := by
  unfold Que.has Que.headW
  dsimp only
  rw [e]
  constructor
  · rintro (⟨h, hh, rfl⟩ | ⟨r, hr, rfl⟩)
    · rcases insH_mem.1 hh with rfl | hh
      · exact .inr ⟨p, List.mem_cons_self, rfl⟩
      · exact .inl ⟨h, hh, rfl⟩
    · exact .inr ⟨r, List.mem_cons_of_mem _ hr, rfl⟩
  · rintro (⟨h, hh, rfl⟩ | ⟨r, hr, rfl⟩)
    · exact .inl ⟨h, insH_mem.2 (.inr hh), rfl⟩
    · rcases List.mem_cons.1 hr with rfl | hr
      · exact .inl ⟨_, insH_mem.2 (.inl rfl), rfl⟩
      · exact .inr ⟨r, hr, rfl⟩
/-- What give1 and give2 keep, whatever is kept by each step. -/
theorem give1_keeps (I : Que → Prop) (st : ∀ q x, I q → q.ripe cp = some x → I (q.grantX x)) : ∀ (k : Nat) (q : Que), I q → I (q.give1 cp k).1
  | 0, q, h => h
  | k + 1, q, h => by
    unfold Que.give1
    cases e : q.ripe cp with
    | none => exact h
    | some x => exact give1_keeps I st k _ (st q x h e)
theorem give2_keeps (I : Que → Prop) (st : ∀ q p l, I q → q.ws = p :: l → q.eg = [] → q.free cp p.1 p.2 = true → I (q.headW p l)) : ∀ (k : Nat) (q : Que), I q → I (q.give2 cp k).1
  | 0, q, h => h
  | k + 1, q, h => by
    unfold Que.give2
    cases e : q.ws with
    | nil => exact h
    | cons p l =>
      dsimp only
      split
      · rename_i hc
        exact give2_keeps I st k _ (st q p l h e hc.1 hc.2)
      · exact h
theorem give_keeps (I : Que → Prop) (s1 : ∀ q x, I q → q.ripe cp = some x → I (q.grantX x)) (s2 : ∀ q p l, I q → q.ws = p :: l → q.eg = [] → q.free cp p.1 p.2 = true → I (q.headW p l)) (q : Que) (h : I q) : I (q.give cp).1 := by
  unfold Que.give
  exact give2_keeps I s2 _ _ (give1_keeps I s1 _ _ h)
theorem Que.ok.give (sy : ∀ a b, cp a b = cp b a) {q : Que} (h : q.ok cp) : (q.give cp).1.ok cp :=
  give_keeps (fun q => q.ok cp) (fun q x h e => h.grantX sy e) (fun q p l h e _ hf => h.headW sy e hf) q h
theorem Que.bd.give {q : Que} (h : q.bd) : (q.give cp).1.bd :=
  give_keeps (fun q => q.bd) (fun q x h e => h.grantX x) (fun q p l h e _ hf => h.headW e) q h
theorem Que.few.give {q : Que} {N : Nat} (h : q.few N) : (q.give cp).1.few N :=
  give_keeps (fun q => q.few N) (fun q x h e => h.grantX x) (fun q p l h e _ hf => h.headW e) q h
theorem has_give {q : Que} {y : Int} : (q.give cp).1.has y ↔ q.has y :=
  give_keeps (fun r => r.has y ↔ q.has y) (fun r x h e => has_grantX.trans h) (fun r p l h e _ _ => (has_headW e).trans h) q Iff.rfl
theorem give1_end : ∀ (k : Nat) (q : Que), q.eg.length ≤ k → (q.give1 cp k).1.ripe cp = none
  | 0, q, hk => by
    have : q.eg = [] := List.eq_nil_of_length_eq_zero (by omega)
    show q.ripe cp = none
    unfold Que.ripe
    rw [this]
    rfl
  | k + 1, q, hk => by
    unfold Que.give1
    cases e : q.ripe cp with
    | none => exact e
    | some x =>
      refine give1_end k (q.grantX x) ?_
      show (q.eg.erase x).length ≤ k
      rw [List.length_erase_of_mem (ripe_some e).1]
      omega
theorem give2_end : ∀ (k : Nat) (q : Que), q.ws.length ≤ k → ∀ p l, (q.give2 cp k).1.ws = p :: l → (q.give2 cp k).1.eg = [] → (q.give2 cp k).1.free cp p.1 p.2 = false
  | 0, q, hk => fun p l e => by
    have : q.ws = [] := List.eq_nil_of_length_eq_zero (by omega)
    have e : q.ws = p :: l := e
    rw [this] at e
    cases e
  | k + 1, q, hk => by
    unfold Que.give2
    cases e : q.ws with
    | nil => dsimp only; intro p l e2; rw [e] at e2; cases e2
    | cons p l =>
      dsimp only
      by_cases hc : q.eg = [] ∧ q.free cp p.1 p.2 = true
      · rw [if_pos hc]
        exact give2_end k (q.headW p l) (by show l.length ≤ k; rw [e, List.length_cons] at hk; omega)
      · rw [if_neg hc]
        dsimp only
        intro p2 l2 e2 e3
        rw [e] at e2
        injection e2 with e4 e5
        subst e4
        cases hf : q.free cp p.1 p.2 with
        | false => rfl
        | true => exact absurd ⟨e3, hf⟩ hc
theorem ripe_nil {q : Que} (h : q.eg = []) : q.ripe cp = none := by unfold Que.ripe; rw [h]; rfl
theorem Que.still.give {q : Que} (h : (q.give cp).1.ok cp) : (q.give cp).1.still cp := by
  have h1 : (q.give1 cp q.eg.length).1.ripe cp = none := give1_end _ q (Nat.le_refl _)
  have h2 : (q.give cp).1.ripe cp = none := by
    unfold Que.give
    exact give2_keeps (fun r => r.ripe cp = none) (fun r p l hr e he hf => ripe_nil he) _ _ h1
  refine ⟨fun g hg hw => ?_, fun he p l hp => ?_⟩
  · have hx := (h.eg g.x).2 ⟨g, hg, rfl, hw⟩
    have := ripe_none h2 g.x hx
    rw [show (q.give cp).1.wantOf g.x = g.w by unfold Que.wantOf; rw [getH_of h.so hg]] at this
    exact this
  · exact give2_end _ (q.give1 cp q.eg.length).1 (Nat.le_refl _) p l hp he
theorem waits_grantX {q : Que} (h : q.ok cp) {x y : Int} (hx : x ∈ q.eg) : (q.grantX x).waits y ↔ q.waits y ∧ y ≠ x := by
  unfold Que.waits Que.grantX
  dsimp only
  rw [h.en.mem_erase_iff]
  constructor
  · rintro (⟨h1, h2⟩ | ⟨p, hp, rfl⟩)
    · exact ⟨.inl h2, h1⟩
    · refine ⟨.inr ⟨p, hp, rfl⟩, fun e => ?_⟩
      obtain ⟨g, hg, h2, _⟩ := (h.eg x).1 hx
      exact h.wn p hp g hg (by rw [h2, e])
  · rintro ⟨h1 | h1, h2⟩
    · exact .inl ⟨h2, h1⟩
    · exact .inr h1
theorem waits_headW {q : Que} (h : q.ok cp) {p : Int × Nat} {l : List (Int × Nat)} (e : q.ws = p :: l) {y : Int} : (q.headW p l).waits y ↔ q.waits y ∧ y ≠ p.1 := by
  have hw := h.ww
  rw [e, List.map_cons, List.nodup_cons] at hw
  have hp : p ∈ q.ws := by rw [e]; exact List.mem_cons_self
  unfold Que.waits Que.headW
  dsimp only
  rw [e]
  constructor
  · rintro (h1 | ⟨r, hr, rfl⟩)
    · refine ⟨.inl h1, fun e2 => ?_⟩
      subst e2
      obtain ⟨g, hg, h2, _⟩ := (h.eg p.1).1 h1
      exact h.wn p hp g hg h2
    · exact ⟨.inr ⟨r, List.mem_cons_of_mem _ hr, rfl⟩, fun e2 => hw.1 (by rw [← e2]; exact List.mem_map.2 ⟨r, hr, rfl⟩)⟩
  · rintro ⟨h1 | ⟨r, hr, rfl⟩, h2⟩
    · exact .inl h1
    · rcases List.mem_cons.1 hr with rfl | hr
      · exact absurd rfl h2
      · exact .inr ⟨r, hr, rfl⟩
theorem waits_give1 (sy : ∀ a b, cp a b = cp b a) : ∀ (k : Nat) (q : Que), q.ok cp → (∀ y, (q.give1 cp k).1.waits y ↔ q.waits y ∧ y ∉ (q.give1 cp k).2) ∧ (∀ y, y ∈ (q.give1 cp k).2 → q.waits y)
  | 0, q, h => ⟨fun y => ⟨fun h => ⟨h, List.not_mem_nil⟩, fun h => h.1⟩, fun y hy => by cases hy⟩
  | k + 1, q, h => by
    unfold Que.give1
    cases e : q.ripe cp with
    | none => exact ⟨fun y => ⟨fun h => ⟨h, List.not_mem_nil⟩, fun h => h.1⟩, fun y hy => by cases hy⟩
    | some x =>
      have hx := (ripe_some e).1
      obtain ⟨i1, i2⟩ := waits_give1 sy k (q.grantX x) (h.grantX sy e)
      dsimp only
      refine ⟨fun y => ?_, fun y hy => ?_⟩
      · rw [i1 y, waits_grantX h hx, List.mem_cons, not_or, and_assoc]
      · rcases List.mem_cons.1 hy with rfl | hy
        · exact .inl hx
        · exact ((waits_grantX h hx).1 (i2 y hy)).1
theorem waits_give2 (sy : ∀ a b, cp a b = cp b a) : ∀ (k : Nat) (q : Que), q.ok cp → (∀ y, (q.give2 cp k).1.waits y ↔ q.waits y ∧ y ∉ (q.give2 cp k).2) ∧ (∀ y, y ∈ (q.give2 cp k).2 → q.waits y)
  | 0, q, h => ⟨fun y => ⟨fun h => ⟨h, List.not_mem_nil⟩, fun h => h.1⟩, fun y hy => by cases hy⟩
  | k + 1, q, h => by
    unfold Que.give2
    cases e : q.ws with
    | nil => exact ⟨fun y => ⟨fun h => ⟨h, List.not_mem_nil⟩, fun h => h.1⟩, fun y hy => by cases hy⟩
    | cons p l =>
      dsimp only
      by_cases hc : q.eg = [] ∧ q.free cp p.1 p.2 = true
      · rw [if_pos hc]
        obtain ⟨i1, i2⟩ := waits_give2 sy k (q.headW p l) (h.headW sy e hc.2)
        dsimp only
        refine ⟨fun y => ?_, fun y hy => ?_⟩
        · rw [i1 y, waits_headW h e, List.mem_cons, not_or, and_assoc]
        · rcases List.mem_cons.1 hy with rfl | hy
          · exact .inr ⟨p, by rw [e]; exact List.mem_cons_self, rfl⟩
          · exact ((waits_headW h e).1 (i2 y hy)).1
      · rw [if_neg hc]
        exact ⟨fun y => ⟨fun h => ⟨h, List.not_mem_nil⟩, fun h => h.1⟩, fun y hy => by cases hy⟩
theorem waits_give (sy : ∀ a b, cp a b = cp b a) {q : Que} (h : q.ok cp) : (∀ y, (q.give cp).1.waits y ↔ q.waits y ∧ y ∉ (q.give cp).2) ∧ (∀ y, y ∈ (q.give cp).2 → q.waits y) := by
  have h1 := waits_give1 sy q.eg.length q h
  have h2 := waits_give2 sy (q.give1 cp q.eg.length).1.ws.length (q.give1 cp q.eg.length).1 (give1_keeps (fun q => q.ok cp) (fun q x h e => h.grantX sy e) _ _ h)
  unfold Que.give
  dsimp only
  refine ⟨fun y => ?_, fun y hy => ?_⟩
  · rw [h2.1 y, h1.1 y, List.mem_append, not_or, and_assoc]
  · rcases List.mem_append.1 hy with hy | hy
    · exact h1.2 y hy
    · exact ((h1.1 y).1 (h2.2 y hy)).1
theorem waits_has {q : Que} (h : q.ok cp) {x : Int} (hw : q.waits x) : q.has x := by
  rcases hw with hw | hw
  · obtain ⟨g, hg, h2, _⟩ := (h.eg x).1 hw
    exact .inl ⟨g, hg, h2⟩
  · exact .inr hw
theorem waits_leave {q : Que} {x y : Int} : (q.leave x).waits y ↔ q.waits y ∧ y ≠ x := by
  unfold Que.waits Que.leave
  dsimp only
  constructor
  · rintro (h | ⟨p, hp, rfl⟩)
    · rw [List.mem_filter] at h; exact ⟨.inl h.1, by simpa using h.2⟩
    · rw [List.mem_filter] at hp; exact ⟨.inr ⟨p, hp.1, rfl⟩, by simpa using hp.2⟩
  · rintro ⟨h | ⟨p, hp, rfl⟩, hne⟩
    · exact .inl (List.mem_filter.2 ⟨h, by simpa using hne⟩)
    · exact .inr ⟨p, List.mem_filter.2 ⟨hp, by simpa using hne⟩, rfl⟩
theorem has_leave {q : Que} {x y : Int} : (q.leave x).has y ↔ q.has y ∧ y ≠ x := by
  unfold Que.has Que.leave
  dsimp only
  constructor
  · rintro (⟨h, hh, rfl⟩ | ⟨p, hp, rfl⟩)
    · rw [List.mem_filter] at hh; exact ⟨.inl ⟨h, hh.1, rfl⟩, by simpa using hh.2⟩
    · rw [List.mem_filter] at hp; exact ⟨.inr ⟨p, hp.1, rfl⟩, by simpa using hp.2⟩
  · rintro ⟨⟨h, hh, rfl⟩ | ⟨p, hp, rfl⟩, hne⟩
    · exact .inl ⟨h, List.mem_filter.2 ⟨hh, by simpa using hne⟩, rfl⟩
    · exact .inr ⟨p, List.mem_filter.2 ⟨hp, by simpa using hne⟩, rfl⟩
theorem leave_none {q : Que} (h : q.ok cp) {x : Int} (hn : ¬ q.has x) : q.leave x = q := by
  unfold Que.leave
  cases q with
  | mk hs eg ws =>
    dsimp only
    have e1 : hs.filter (fun h => h.x != x) = hs := List.filter_eq_self.2 fun g hg => by
      have : g.x ≠ x := fun e => hn (.inl ⟨g, hg, e⟩)
      simpa using this
    have e3 : ws.filter (fun p => p.1 != x) = ws := List.filter_eq_self.2 fun g hg => by
      have : g.1 ≠ x := fun e => hn (.inr ⟨g, hg, e⟩)
      simpa using this
    have e2 : eg.filter (fun y => y != x) = eg := List.filter_eq_self.2 fun y hy => by
      have : y ≠ x := fun e => by
        subst e
        obtain ⟨g, hg, h2, _⟩ := (h.eg y).1 hy
        exact hn (.inl ⟨g, hg, h2⟩)
      simpa using this
    rw [e1, e2, e3]
theorem leave_short {q : Que} {x : Int} : (q.leave x).hs.length + (q.leave x).ws.length < q.hs.length + q.ws.length ↔ q.has x := by
  have a := List.length_filter_le (fun h : Hold => h.x != x) q.hs
  have c := List.length_filter_le (fun p : Int × Nat => p.1 != x) q.ws
  have a2 : (∃ h, h ∈ q.hs ∧ h.x = x) ↔ (q.hs.filter fun h => h.x != x).length < q.hs.length := by
    constructor
    · rintro ⟨h, hh, rfl⟩
      refine Nat.lt_of_le_of_ne a fun e => ?_
      have := List.length_filter_eq_length_iff.1 e h hh
      simp at this
    · intro hl
      refine Classical.byContradiction fun hn => ?_
      have : (q.hs.filter fun h => h.x != x) = q.hs := List.filter_eq_self.2 fun g hg => by
        have : g.x ≠ x := fun e => hn ⟨g, hg, e⟩
        simpa using this
      rw [this] at hl
      omega
  have c2 : (∃ p, p ∈ q.ws ∧ p.1 = x) ↔ (q.ws.filter fun p => p.1 != x).length < q.ws.length := by
    constructor
    · rintro ⟨h, hh, rfl⟩
      refine Nat.lt_of_le_of_ne c fun e => ?_
      have := List.length_filter_eq_length_iff.1 e h hh
      simp at this
    · intro hl
      refine Classical.byContradiction fun hn => ?_
      have : (q.ws.filter fun p => p.1 != x) = q.ws := List.filter_eq_self.2 fun g hg => by
        have : g.1 ≠ x := fun e => hn ⟨g, hg, e⟩
        simpa using this
      rw [this] at hl
      omega
  unfold Que.has
  rw [a2, c2]
  unfold Que.leave
  dsimp only
  omega
end

/-! A table -/
structure Nm where
  s : Int
  t : ByteArray
instance : DecidableEq Nm := fun a b => match a, b with
  | ⟨s, ⟨t⟩⟩, ⟨s', ⟨t'⟩⟩ => if h : s = s' ∧ t = t' then isTrue (by rw [h.1, h.2]) else isFalse fun e => h (by injection e with e1 e2; injection e2 with e2; exact ⟨e1, e2⟩)
structure Tbl where
  qs : Nm → Option Que
  wt : Int → Option Nm
def Tbl.nil : Tbl := ⟨fun _ => none, fun _ => none⟩
def Tbl.q (T : Tbl) (n : Nm) : Que := (T.qs n).getD Que.nil
section
variable (cp : Nat → Nat → Bool) (jn : Nat → Nat → Nat)
structure Tbl.ok (T : Tbl) : Prop where
  q : ∀ n q, T.qs n = some q → q.ok cp ∧ q.still cp ∧ (q.hs ≠ [] ∨ q.ws ≠ [])
  w : ∀ x n, T.wt x = some n ↔ (T.q n).waits x
def Tbl.few (T : Tbl) (N : Nat) : Prop := ∀ n q, T.qs n = some q → q.few N
def Tbl.bd (T : Tbl) : Prop := ∀ n q, T.qs n = some q → q.bd
/-- A question that is none: refused; else asked at its name. -/
def Tbl.asked (T : Tbl) (x : Int) (n : Nm) (m : Nat) : Tbl :=
  ⟨fun k => if k = n then some ((T.q n).ask cp jn x m).1 else T.qs k, fun y => if y = x ∧ ((T.q n).ask cp jn x m).2 = false then some n else T.wt y⟩
open Classical in
/-- A name's queue behind a release; those who were given something. -/
noncomputable def Que.rel (q : Que) (x : Int) : Que × List Int := if q.has x then (q.leave x).give cp else (q, [])
open Classical in
noncomputable def Tbl.release (T : Tbl) (x : Int) : Tbl :=
  ⟨fun n => match T.qs n with
    | none => none
    | some q => if q.has x ∧ (q.rel cp x).1.hs = [] ∧ (q.rel cp x).1.ws = [] then none else some (q.rel cp x).1,
   fun y => if y = x ∨ ∃ n, y ∈ ((T.q n).rel cp x).2 then none else T.wt y⟩
def Tbl.mode (T : Tbl) (x : Int) (n : Nm) : Nat := match getH x (T.q n).hs with | some h => h.m | none => 0
variable {cp jn}
theorem Tbl.q_none {T : Tbl} {n : Nm} (h : T.qs n = none) : T.q n = Que.nil := by unfold Tbl.q; rw [h]; rfl
theorem Tbl.q_some {T : Tbl} {n : Nm} {q : Que} (h : T.qs n = some q) : T.q n = q := by unfold Tbl.q; rw [h]; rfl
theorem Tbl.ok.at_ {T : Tbl} (h : T.ok cp) (n : Nm) : (T.q n).ok cp ∧ (T.q n).still cp := by
  cases e : T.qs n with
  | none => rw [Tbl.q_none e]; exact ⟨.nil, .nil⟩
  | some q => rw [Tbl.q_some e]; exact ⟨(h.q n q e).1, (h.q n q e).2.1⟩
theorem Tbl.ok.nil : Tbl.nil.ok cp := ⟨fun n q h => (by cases h), fun x n => ⟨fun h => (by cases h), fun h => by rcases h with h | ⟨p, hp, _⟩ <;> cases (by assumption : _ ∈ [])⟩⟩
theorem Tbl.few.nil (N : Nat) : Tbl.nil.few N := fun n q h => by cases h
theorem Tbl.bd.nil : Tbl.nil.bd := fun n q h => by cases h
theorem Tbl.few.at_ {T : Tbl} {N : Nat} (h : T.few N) (n : Nm) : (T.q n).few N := by
  cases e : T.qs n with
  | none => rw [Tbl.q_none e]; exact ⟨Nat.zero_le _, Nat.zero_le _⟩
  | some q => rw [Tbl.q_some e]; exact h n q e
theorem Tbl.bd.at_ {T : Tbl} (h : T.bd) (n : Nm) : (T.q n).bd := by
  cases e : T.qs n with
  | none => rw [Tbl.q_none e]; exact .nil
  | some q => rw [Tbl.q_some e]; exact h n q e
theorem Que.few.more {q : Que} {N M : Nat} (h : q.few N) (e : N ≤ M) : q.few M := ⟨Nat.le_trans h.1 e, Nat.le_trans h.2 e⟩
theorem Tbl.few.asked {T : Tbl} {N : Nat} (h : T.few N) (x : Int) (n : Nm) (m : Nat) : (T.asked cp jn x n m).few (N + 1) := fun k q e => by
  unfold Tbl.asked at e
  dsimp only at e
  by_cases hk : k = n
  · rw [if_pos hk] at e
    injection e with e
    subst e
    exact (h.at_ n).ask jn x m
  · rw [if_neg hk] at e
    exact (h k q e).more (Nat.le_succ _)
theorem Tbl.bd.asked {T : Tbl} (h : T.bd) (hj : ∀ a b, a ≤ 6 → b ≤ 6 → jn a b ≤ 6) {x : Int} (hx : -9223372036854775808 ≤ x ∧ x ≤ 9223372036854775807) (n : Nm) {m : Nat} (hm : m ≤ 6) : (T.asked cp jn x n m).bd := fun k q e => by
  unfold Tbl.asked at e
  dsimp only at e
  by_cases hk : k = n
  · rw [if_pos hk] at e
    injection e with e
    subst e
    exact (h.at_ n).ask jn hj hx hm
  · rw [if_neg hk] at e
    exact h k q e
theorem ask_waits {q : Que} {x : Int} {m : Nat} {y : Int} : (q.ask cp jn x m).1.waits y ↔ q.waits y ∨ (y = x ∧ (q.ask cp jn x m).2 = false) := by
  unfold Que.ask Que.waits
  cases hg : getH x q.hs with
  | none =>
    dsimp only
    split
    · simp
    · dsimp only
      constructor
      · rintro (h | ⟨p, hp, rfl⟩)
        · exact .inl (.inl h)
        · rcases List.mem_append.1 hp with hp | hp
          · exact .inl (.inr ⟨p, hp, rfl⟩)
          · rw [List.mem_singleton] at hp; subst hp; exact .inr ⟨rfl, rfl⟩
      · rintro ((h | ⟨p, hp, rfl⟩) | ⟨rfl, _⟩)
        · exact .inl h
        · exact .inr ⟨p, List.mem_append.2 (.inl hp), rfl⟩
        · exact .inr ⟨_, List.mem_append.2 (.inr (List.mem_singleton.2 rfl)), rfl⟩
  | some g =>
    dsimp only
    split
    · simp
    · dsimp only
      constructor
      · rintro (h | h)
        · rcases List.mem_append.1 h with h | h
          · exact .inl (.inl h)
          · rw [List.mem_singleton] at h; exact .inr ⟨h, rfl⟩
        · exact .inl (.inr h)
      · rintro ((h | h) | ⟨rfl, _⟩)
        · exact .inl (List.mem_append.2 (.inl h))
        · exact .inr h
        · exact .inl (List.mem_append.2 (.inr (List.mem_singleton.2 rfl)))
theorem ask_some {q : Que} {x : Int} {m : Nat} : (q.ask cp jn x m).1.hs ≠ [] ∨ (q.ask cp jn x m).1.ws ≠ [] := by
  unfold Que.ask
  cases hg : getH x q.hs with
  | none =>
    dsimp only
    split
    · left; intro e; have := congrArg List.length e; dsimp only at this; rw [insH_length] at this; simp at this
    · right; simp
  | some g =>
    have hm := (getH_some hg).1
    have hl : (0 : Nat) < q.hs.length := List.length_pos_of_mem hm
    dsimp only
    split
    · left; intro e; have := congrArg List.length e; dsimp only at this; rw [setH_length, List.length_nil] at this; omega
    · left; intro e; have := congrArg List.length e; dsimp only at this; rw [setH_length, List.length_nil] at this; omega
theorem Tbl.asked_q {T : Tbl} {x : Int} {n : Nm} {m : Nat} (k : Nm) : (T.asked cp jn x n m).q k = if k = n then ((T.q n).ask cp jn x m).1 else T.q k := by
  unfold Tbl.q Tbl.asked
  dsimp only
  by_cases e : k = n
  · rw [if_pos e, if_pos e]; rfl
  · rw [if_neg e, if_neg e]
/-- What Ask wants of the modes. -/
structure Md.Law (cp : Nat → Nat → Bool) (jn : Nat → Nat → Nat) : Prop where
  sy : ∀ a b, cp a b = cp b a
  mon : ∀ a b c, cp a (jn b c) = true → cp a b = true
  jz : ∀ a b, b ≠ 0 → jn a b ≠ 0
theorem Tbl.ok.asked (L : Md.Law cp jn) {T : Tbl} (h : T.ok cp) {x : Int} {n : Nm} {m : Nat} (hm : m ≠ 0) (hx : T.wt x = none) : (T.asked cp jn x n m).ok cp := by
  have hn : ∀ k, ¬ (T.q k).waits x := fun k hk => by rw [(h.w x k).2 hk] at hx; cases hx
  have hq := (h.at_ n)
  have ha := Que.ask_ok L.sy jn L.mon L.jz hq.1 hq.2 (x := x) hm (fun p hp e => hn n (.inr ⟨p, hp, e⟩)) (fun e => hn n (.inl e))
  refine ⟨fun k q e => ?_, fun y k => ?_⟩
  · unfold Tbl.asked at e
    dsimp only at e
    by_cases hk : k = n
    · rw [if_pos hk] at e
      injection e with e
      subst e
      exact ⟨ha.1, ha.2, ask_some⟩
    · rw [if_neg hk] at e
      exact h.q k q e
  · rw [Tbl.asked_q]
    show (if y = x ∧ _ then some n else T.wt y) = some k ↔ _
    by_cases hk : k = n
    · subst hk
      rw [if_pos rfl, ask_waits]
      by_cases hc : y = x ∧ ((T.q k).ask cp jn x m).2 = false
      · rw [if_pos hc]; exact ⟨fun _ => .inr hc, fun _ => rfl⟩
      · rw [if_neg hc, h.w y k]; exact ⟨.inl, fun h => h.resolve_right hc⟩
    · rw [if_neg hk]
      by_cases hc : y = x ∧ ((T.q n).ask cp jn x m).2 = false
      · rw [if_pos hc]
        constructor
        · intro e; injection e with e; exact absurd e.symm hk
        · intro e; rw [hc.1] at e; exact absurd e (hn k)
      · rw [if_neg hc]; exact h.w y k
theorem rel_ok (sy : ∀ a b, cp a b = cp b a) {q : Que} (h : q.ok cp) (s : q.still cp) (x : Int) : (q.rel cp x).1.ok cp ∧ (q.rel cp x).1.still cp ∧ (∀ y, (q.rel cp x).1.waits y ↔ q.waits y ∧ y ≠ x ∧ y ∉ (q.rel cp x).2) ∧
    (∀ y, y ∈ (q.rel cp x).2 → q.waits y ∧ y ≠ x) ∧ ∀ y, (q.rel cp x).1.has y ↔ q.has y ∧ y ≠ x := by
  unfold Que.rel
  by_cases e : q.has x
  · rw [if_pos e]
    have hl := h.leave (cp := cp) x
    have hw := waits_give sy hl
    refine ⟨hl.give sy, .give (hl.give sy), fun y => ?_, fun y hy => ?_, fun y => ?_⟩
    · rw [hw.1 y, waits_leave, and_assoc]
    · exact waits_leave.1 (hw.2 y hy)
    · rw [has_give, has_leave]
  · rw [if_neg e]
    refine ⟨h, s, fun y => ⟨fun hy => ⟨hy, fun e2 => e (by rw [← e2]; exact waits_has h hy), List.not_mem_nil⟩, fun hy => hy.1⟩, (fun y hy => by cases hy), fun y => ⟨fun hy => ⟨hy, fun e2 => e (by rw [← e2]; exact hy)⟩, fun hy => hy.1⟩⟩
theorem rel_bd {q : Que} (h : q.bd) (x : Int) : (q.rel cp x).1.bd := by
  unfold Que.rel
  by_cases e : q.has x
  · rw [if_pos e]; exact (h.leave x).give
  · rw [if_neg e]; exact h
theorem rel_few {q : Que} {N : Nat} (h : q.few N) (x : Int) : (q.rel cp x).1.few N := by
  unfold Que.rel
  by_cases e : q.has x
  · rw [if_pos e]; exact (h.leave x).give
  · rw [if_neg e]; exact h
theorem hw_nil {q : Que} : q.hs = [] ∧ q.ws = [] ↔ ∀ y, ¬ q.has y := by
  constructor
  · rintro ⟨h1, h2⟩ y (⟨h, hh, _⟩ | ⟨p, hp, _⟩)
    · rw [h1] at hh; cases hh
    · rw [h2] at hp; cases hp
  · intro hn
    constructor
    · cases e : q.hs with
      | nil => rfl
      | cons h l => exact absurd (.inl ⟨h, by rw [e]; exact List.mem_cons_self, rfl⟩) (hn h.x)
    · cases e : q.ws with
      | nil => rfl
      | cons p l => exact absurd (.inr ⟨p, by rw [e]; exact List.mem_cons_self, rfl⟩) (hn p.1)
theorem Que.nil_of {q : Que} (h : q.ok cp) (h1 : q.hs = []) (h2 : q.ws = []) : q = Que.nil := by
  cases q with
  | mk hs eg ws =>
    dsimp only at h1 h2
    subst h1 h2
    have : eg = [] := by
      cases eg with
      | nil => rfl
      | cons y l =>
        obtain ⟨g, hg, _⟩ := (h.eg y).1 List.mem_cons_self
        cases hg
    rw [this]
    rfl
/-- Behind a release each name's queue is what its own words say. -/
theorem Tbl.release_q (sy : ∀ a b, cp a b = cp b a) {T : Tbl} (h : T.ok cp) (x : Int) (n : Nm) : (T.release cp x).q n = ((T.q n).rel cp x).1 := by
  unfold Tbl.release Tbl.q
  dsimp only
  cases e : T.qs n with
  | none =>
    dsimp only [Option.getD]
    have : ¬ Que.nil.has x := fun hh => by rcases hh with ⟨h, hh, _⟩ | ⟨p, hp, _⟩ <;> cases (by assumption : _ ∈ [])
    unfold Que.rel
    rw [if_neg this]
  | some q =>
    dsimp only [Option.getD]
    by_cases hc : q.has x ∧ (q.rel cp x).1.hs = [] ∧ (q.rel cp x).1.ws = []
    · rw [if_pos hc]
      dsimp only [Option.getD]
      have := rel_ok sy (h.q n q e).1 (h.q n q e).2.1 x
      exact (Que.nil_of this.1 hc.2.1 hc.2.2).symm
    · rw [if_neg hc]
theorem Tbl.ok.release (sy : ∀ a b, cp a b = cp b a) {T : Tbl} (h : T.ok cp) (x : Int) : (T.release cp x).ok cp := by
  have R := fun n => rel_ok sy (h.at_ n).1 (h.at_ n).2 x
  refine ⟨fun n q e => ?_, fun y n => ?_⟩
  · unfold Tbl.release at e
    dsimp only at e
    cases e2 : T.qs n with
    | none => rw [e2] at e; cases e
    | some q0 =>
      rw [e2] at e
      dsimp only at e
      have R0 := R n
      rw [Tbl.q_some e2] at R0
      by_cases hc : q0.has x ∧ (q0.rel cp x).1.hs = [] ∧ (q0.rel cp x).1.ws = []
      · rw [if_pos hc] at e; cases e
      · rw [if_neg hc] at e
        injection e with e
        subst e
        refine ⟨R0.1, R0.2.1, ?_⟩
        by_cases hx : q0.has x
        · refine Classical.byContradiction fun hn => hc ⟨hx, ?_⟩
          rw [not_or, Classical.not_not, Classical.not_not] at hn
          exact hn
        · have : q0.rel cp x = (q0, []) := by unfold Que.rel; rw [if_neg hx]
          rw [this]
          exact (h.q n q0 e2).2.2
  · rw [Tbl.release_q sy h, (R n).2.2.1 y]
    unfold Tbl.release
    dsimp only
    by_cases hc : y = x ∨ ∃ n, y ∈ ((T.q n).rel cp x).2
    · rw [if_pos hc]
      constructor
      · intro e; cases e
      · rintro ⟨h1, h2, h3⟩
        rcases hc with hc | ⟨k, hk⟩
        · exact absurd hc h2
        · have a1 := (h.w y n).2 h1
          have a2 := (h.w y k).2 ((R k).2.2.2.1 y hk).1
          rw [a1] at a2
          injection a2 with a2
          subst a2
          exact absurd hk h3
    · rw [if_neg hc, h.w y n]
      rw [not_or] at hc
      exact ⟨fun h1 => ⟨h1, hc.1, fun hk => hc.2 ⟨n, hk⟩⟩, fun h1 => h1.1⟩
theorem Tbl.bd.release {T : Tbl} (h : T.bd) (x : Int) : (T.release cp x).bd := fun n q e => by
  unfold Tbl.release at e
  dsimp only at e
  cases e2 : T.qs n with
  | none => rw [e2] at e; cases e
  | some q0 =>
    rw [e2] at e
    dsimp only at e
    split at e
    · cases e
    · injection e with e
      subst e
      exact rel_bd (h n q0 e2) x
theorem Tbl.few.release {T : Tbl} {N : Nat} (h : T.few N) (x : Int) : (T.release cp x).few N := fun n q e => by
  unfold Tbl.release at e
  dsimp only at e
  cases e2 : T.qs n with
  | none => rw [e2] at e; cases e
  | some q0 =>
    rw [e2] at e
    dsimp only at e
    split at e
    · cases e
    · injection e with e
      subst e
      exact rel_few (h n q0 e2) x
end
end Go.Proofs.YtnpnpkaklamboaaDoor
